/-
  The law's comparison of a log with its model. Conditions: at most a thousand records and missed events, all records valid.
-/
import Derived.Test.YtlgoiccekgjhnaaLsd
import Derived.Test.YtlgoiccekgjhnaaLgc
namespace Go.Proofs.Ytlgoiccekgjhnaa
open Go.ChangeShapes Go.WideShapes Go.ChangeAt Go.RowKit Go.Shelf
attribute [local go_sem] Oper.semAt_some
set_option linter.unusedVariables false
set_option linter.unusedSimpArgs false
set_option maxHeartbeats 8000000
set_option maxRecDepth 100000

/-- What the law's loop knows between two rounds: the box at kb holds how many records were looked at. -/
def IQ (w : World) (s : Ev5 → Bool) (L : List Ev5) (pre : List (Nat × Ev5)) (W : World) : Prop := Below w.heap.size w W ∧ ∃ t : Nat, t ≤ L.length ∧ Cel W w.heap.size 3 (.int .i64 (t : Int)) ∧ sls s 0 (L.take t) = pre
theorem iq_own {w : World} {s : Ev5 → Bool} {L : List Ev5} {N : Nat} (hw : w.heap.size ≤ N) : OwnFrom N (IQ w s L) := fun p W W' row h hg hr => by
  obtain ⟨h1, t, h2, h3, h4⟩ := h
  exact ⟨h1.grown hg h1.size (fun r e => Nat.le_trans hw (hr r e).1), t, h2, h3.grown hg (fun r e => (hr r e).2), h4⟩
/-- The number in a box. -/
def cnat (w : World) (b : Nat) : Nat := match w.cell? ⟨b, 0, none⟩ with | some (.int _ v) => v.toNat | _ => 0
theorem cnat_of {w : World} {b t : Nat} {ty : TypeId} (h : Cel w b ty (.int .i64 (t : Int))) : cnat w b = t := by
  unfold cnat
  rw [h.cell]
  rfl
/-- A post that a panic does not keep. -/
def noPanic (Q : Exit → Act → World → Prop) : Exit → Act → World → Prop
  | .panic _, _, _ => False
  | .normal, a, w => Q .normal a w
  | .ret, a, w => Q .ret a w
  | .outgrown, a, w => Q .outgrown a w
  | .exit i, a, w => Q (.exit i) a w
  | .goto i, a, w => Q (.goto i) a w
theorem noPanic_le {Q : Exit → Act → World → Prop} (e : Exit) (a : Act) (w : World) (h : noPanic Q e a w) : Q e a w := by
  cases e <;> first | exact h | exact h.elim
/-- The next one is selected or skipped. -/
theorem sls_skip {s : Ev5 → Bool} {L : List Ev5} {t : Nat} {y : Ev5} (h : L[t]? = some y) (hs : s y = false) : sls s 0 (L.take (t + 1)) = sls s 0 (L.take t) := by
  rw [sls_next h, if_neg (by simp [hs]), List.append_nil]
theorem sls_here {s : Ev5 → Bool} {L : List Ev5} {t : Nat} {y : Ev5} {x : Nat × Ev5} (h : L[t]? = some y) (hs : s y = true) (hx : (sls s 0 L)[(sls s 0 (L.take t)).length]? = some x) : x = (t, y) := by
  rw [sls_at h hs] at hx
  exact (Option.some.inj hx).symm
theorem sls_full {s : Ev5 → Bool} {L : List Ev5} {t : Nat} {x : Nat × Ev5} (ht : L.length ≤ t) (hx : (sls s 0 L)[(sls s 0 (L.take t)).length]? = some x) : False := by
  rw [List.take_of_length_le ht] at hx
  have := (List.getElem?_eq_some_iff.1 hx).1
  omega
theorem alike17_any {w : World} {P : Option Addr} {cap last : Int} {L : List Ev5} {M : List Int} {f g : Int → Nat} {m : Nat} {z : Int} (H : Rlp w P cap L last f g) (hl : L ≠ [] → last = lgD start L) (hR : Mgr w m cap L M) (hG : Goods L) (hn : L.length ≤ 1000) (hm : M.length ≤ 1000) (hz : Ri z)
    (hf : f z = rcN L z) (hg : g z = msN M z) : Calls Try.prog 18 #[.pointer P, .pointer (some ⟨m, 0, none⟩), .int .i64 z] w fun e w' => e = .returned (.bool true) ∧ Below w.heap.size w w' := by
  have HQ := Lib.hid (fun W (hb : Below w.heap.size w W) => H.go hb)
  have HLS := Lib.hid (fun W (hb : Below w.heap.size w W) => listed17_any (HQ.out W hb) (by omega))
  have HLE := Lib.hid (fun W (hb : Below w.heap.size w W) => lenL_any (HQ.out W hb))
  have HRO := Lib.hid (fun W (hb : Below w.heap.size w W) => roomL_any (HQ.out W hb) hz)
  have HRM := Lib.hid (fun W (hb : Below w.heap.size w W) => roomM_any (w := W) z (hR.go hb) (by omega))
  have HRE := Lib.hid (fun W (hb : Below w.heap.size w W) => recordsL_any (HQ.out W hb) hz)
  have HRR := Lib.hid (fun W (hb : Below w.heap.size w W) => recordsM_any (w := W) z (hR.go hb) (by omega))
  have HMI := Lib.hid (fun W (hb : Below w.heap.size w W) => missedL_any (HQ.out W hb) hz)
  have HMR := Lib.hid (fun W (hb : Below w.heap.size w W) => missedM_any (w := W) z (hR.go hb) (by omega))
  have HDG := Lib.hid (fun W (hb : Below w.heap.size w W) => digestL_any (HQ.out W hb) hl)
  have HBY := Lib.hid (fun W (hb : Below w.heap.size w W) => bytesL_any (HQ.out W hb) hG hn)
  rw [hf] at HRO HRE
  rw [hg] at HMI
  obtain ⟨Am, nm, cm, A5, n5, c5, hblk, hkm, _⟩ := hR
  obtain rfl : L.length = nm := hkm.len
  have hcapm := hkm.cap
  have hsmm := hkm.small
  unfold maxLen at hsmm
  have HKM := Lib.hid (fun W (hb : Below w.heap.size w W) => (hkm.below hb).more hb.size)
  have HKB := Lib.hid hkm
  have HMB : Hid (∀ W, Below w.heap.size w W → W.cell? ⟨m, 1, none⟩ = some (.slice Am L.length cm)) := Lib.hid (fun W hb => by
    have h1 := cell_of_row W m 1 _ _ _ ((hb.block m (Array.getElem?_eq_some_iff.1 hblk).1).trans hblk)
    simpa using h1)
  have HDO := Lib.hid (fun W (hb : Below w.heap.size w W) => digestOf_any Am L.length cm L W (HKM.out W hb) hG (by omega))
  have HBO := Lib.hid (fun W (hb : Below w.heap.size w W) => bytesOf_any Am L.length cm L W (HKM.out W hb) hG (by omega))
  have hlm : m < w.heap.size := (Array.getElem?_eq_some_iff.1 hblk).1
  obtain ⟨qr, hqr⟩ : ∃ qr, decide ((rcN L z : Int) < cap) = qr := ⟨_, rfl⟩
  rw [hqr] at HRO HRM
  obtain ⟨yr, hyr⟩ : ∃ yr : Int, (rcN L z : Int) = yr := ⟨_, rfl⟩
  rw [hyr] at HRE HRR
  obtain ⟨ym, hym⟩ : ∃ ym : Int, (msN M z : Int) = ym := ⟨_, rfl⟩
  rw [hym] at HMI HMR
  obtain ⟨dd, hdd⟩ : ∃ dd, lgD start L = dd := ⟨_, rfl⟩
  rw [hdd] at HDG HDO
  obtain ⟨bb, hbb⟩ : ∃ bb, lgB start L = bb := ⟨_, rfl⟩
  rw [hbb] at HBY HBO
  obtain ⟨S, hS⟩ : ∃ S, strOfNums bb = S := ⟨_, rfl⟩
  have HSS := Lib.hid hS
  unfold Made at HBY HBO
  have hb3 : Below w.heap.size w (((w.alloc (.cells #[.pointer (some ⟨m, 0, none⟩)] 34)).alloc (.cells #[.int .i64 z] 3)).alloc (.cells #[.bool false] 4)) := (((Below.refl _ _).alloc (Nat.le_refl _) _).alloc (by simp) _).alloc (by simp; omega) _
  have hs1 : (w.alloc (.cells #[.pointer (some ⟨m, 0, none⟩)] 34)).heap.size = w.heap.size + 1 := by simp
  have hs2 : ((w.alloc (.cells #[.pointer (some ⟨m, 0, none⟩)] 34)).alloc (.cells #[.int .i64 z] 3)).heap.size = w.heap.size + 1 + 1 := by simp
  have k1 : Cel (((w.alloc (.cells #[.pointer (some ⟨m, 0, none⟩)] 34)).alloc (.cells #[.int .i64 z] 3)).alloc (.cells #[.bool false] 4)) w.heap.size 34 (.pointer (some ⟨m, 0, none⟩)) := (Cel.new.go ((Below.refl _ _).alloc (Nat.le_refl _) _)).go ((Below.refl _ _).alloc (Nat.le_refl _) _)
  have k2 : Cel (((w.alloc (.cells #[.pointer (some ⟨m, 0, none⟩)] 34)).alloc (.cells #[.int .i64 z] 3)).alloc (.cells #[.bool false] 4)) (w.heap.size + 1) 3 (.int .i64 z) := by
    rw [← hs1]
    exact Cel.new.go ((Below.refl _ _).alloc (Nat.le_refl _) _)
  have k3 : Cel (((w.alloc (.cells #[.pointer (some ⟨m, 0, none⟩)] 34)).alloc (.cells #[.int .i64 z] 3)).alloc (.cells #[.bool false] 4)) (w.heap.size + 1 + 1) 4 (.bool false) := by
    rw [← hs2]
    exact Cel.new
  have HB3 := Lib.hid hb3
  have HK1 := Lib.hid k1
  have HK2 := Lib.hid k2
  have HK3 := Lib.hid k3
  have HLC := Lib.hid (HLS.out _ hb3)
  have hri := hz
  clear H hl hG hm hz hf hg hblk hkm hqr hyr hym hdd hbb hS hb3 hs1 hs2 k1 k2 k3 HLS hri
  refine (callsIn_wide (n := 6)).1 ?_
  refine callsIn_of_wp_marks Try.func18 rfl trivial ?_ rfl
  refine wpIn_wide.2 ?_
  refine wp_mono ?_ noPanic_le
  simp only [Try.ntmps18, List.size_toArray, List.length_cons, List.length_nil, Nat.reduceAdd, Nat.reduceSub, Array.replicate_succ, Array.replicate_zero, List.push_toArray, List.append_toArray, List.nil_append, List.cons_append]
  go_wp2_with fail
  generalize (((w.alloc (.cells #[.pointer (some ⟨m, 0, none⟩)] 34)).alloc (.cells #[.int .i64 z] 3)).alloc (.cells #[.bool false] 4)) = w1 at *
  have HBA : Hid (w.heap.size = w.heap.size) := Lib.hid rfl
  obtain ⟨ba, hba⟩ : ∃ ba, w.heap.size = ba := ⟨_, rfl⟩
  rw [hba] at HK1 HK2 HK3
  refine HLC.out.mono ?_
  rintro e w2 ⟨v2, rfl, ho2, hb2⟩
  obtain ⟨A2, n2, c2, rfl, hk2⟩ := ho2.shape
  have HX2 := Lib.hid hk2
  have HB2 := Lib.hid (Below.then HB3.out hb2 (Nat.le_refl _))
  have HL1 := Lib.hid (HK1.out.go hb2)
  have HL2 := Lib.hid (HK2.out.go hb2)
  have HL3 := Lib.hid (HK3.out.go hb2)
  clear ho2 hk2 hb2 HLC HK1 HK2 HK3 HB3
  rw [hba]
  go_wp2_with fail
  have HLD : Hid (∀ W, Below w2.heap.size w2 W → W.cell? ⟨ba, 0, none⟩ = some (.pointer (some ⟨m, 0, none⟩)) ∧ W.cell? ⟨ba + 1, 0, none⟩ = some (.int .i64 z) ∧ W.cell? ⟨m, 1, none⟩ = some (.slice Am L.length cm)) := Lib.hid (fun W hW => ⟨(HL1.out.go hW).cell, (HL2.out.go hW).cell, HMB.out W (Below.then HB2.out hW (Nat.le_refl _))⟩)
  have HD0 : Hid (Below w2.heap.size w2 w2.drew) := Lib.hid (below_drewN (Below.refl _ w2) 1)
  have HB0 := Lib.hid (Below.then HB2.out HD0.out (Nat.le_refl _))
  have HSE := Lib.hid (sameEv_any A2 n2 c2 Am L.length cm L w2.drew (HX2.out.go HD0.out) (HKM.out _ HB0.out))
  refine wp_region_hand 70 (fun W => Below w2.heap.size w2 W) (by kernel_rfl) (by kernel_rfl) ?_
  rw [show Array.replicate 70 false = #[false, false, false, false, false, false, false, false, false, false, false, false, false, false, false, false, false, false, false, false, false, false, false, false, false, false, false, false, false, false, false, false, false, false, false, false, false, false, false, false, false, false, false, false, false, false, false, false, false, false, false, false, false, false, false, false, false, false, false, false, false, false, false, false, false, false, false, false, false, false] from rfl]
  have hHeld := HD0.out
  refine held_take (i := 0) (d := 17) (v := .bool true) rfl rfl (by kernel_rfl) (by kernel_rfl) (by kernel_rfl) (fun _ _ _ h => h) (by rfl) (fun W _ => run_move_is (.tmp 8) rfl rfl W) hHeld ?_
  simp only [Act.put, List.setIfInBounds_toArray, List.set_cons_zero, List.set_cons_succ]
  refine held_take (i := 1) (d := 18) (v := .bool false) rfl rfl (by kernel_rfl) (by kernel_rfl) (by kernel_rfl) (fun _ _ _ h => h) (by rfl) (fun W _ => by go_simp) hHeld ?_
  simp only [Act.put, List.setIfInBounds_toArray, List.set_cons_zero, List.set_cons_succ]
  refine held_take (i := 2) (d := 19) (v := .bool false) rfl rfl (by kernel_rfl) (by kernel_rfl) (by kernel_rfl) (fun _ _ _ h => h) (by rfl) (fun W _ => run_move_is (.tmp 18) rfl rfl W) hHeld ?_
  simp only [Act.put, List.setIfInBounds_toArray, List.set_cons_zero, List.set_cons_succ]
  refine held_take (i := 3) (d := 20) (v := .slice A2 n2 c2) rfl rfl (by kernel_rfl) (by kernel_rfl) (by kernel_rfl) (fun _ _ _ h => h) (by rfl) (fun W _ => run_move_is (.tmp 7) rfl rfl W) hHeld ?_
  simp only [Act.put, List.setIfInBounds_toArray, List.set_cons_zero, List.set_cons_succ]
  refine held_take (i := 4) (d := 21) (v := .pointer (some ⟨m, 0, none⟩)) rfl rfl (by kernel_rfl) (by kernel_rfl) (by kernel_rfl) (fun _ _ _ h => h) (by rfl) (fun W hW => by have q := (HLD.out W hW).1; go_simp) hHeld ?_
  simp only [Act.put, List.setIfInBounds_toArray, List.set_cons_zero, List.set_cons_succ]
  refine held_take (i := 5) (d := 22) (v := .pointer (some ⟨m, 0, none⟩)) rfl rfl (by kernel_rfl) (by kernel_rfl) (by kernel_rfl) (fun _ _ _ h => h) (by rfl) (fun W _ => by go_simp) hHeld ?_
  simp only [Act.put, List.setIfInBounds_toArray, List.set_cons_zero, List.set_cons_succ]
  refine held_take (i := 6) (d := 23) (v := .pointer (some ⟨m, 1, none⟩)) rfl rfl (by kernel_rfl) (by kernel_rfl) (by kernel_rfl) (fun _ _ _ h => h) (by rfl) (fun W _ => by go_simp) hHeld ?_
  simp only [Act.put, List.setIfInBounds_toArray, List.set_cons_zero, List.set_cons_succ]
  refine held_take (i := 7) (d := 24) (v := .slice Am L.length cm) rfl rfl (by kernel_rfl) (by kernel_rfl) (by kernel_rfl) (fun _ _ _ h => h) (by rfl) (fun W hW => by have q := (HLD.out W hW).2.2; go_simp) hHeld ?_
  simp only [Act.put, List.setIfInBounds_toArray, List.set_cons_zero, List.set_cons_succ]
  have HCL := Lib.hid (HSE.out)
  refine held_one (i := 8) (by kernel_rfl) ?_
  refine held_callX (d := 25) rfl rfl (by rfl) rfl (by kernel_rfl) Try.func24 (by kernel_rfl) HCL.out ?_
  rintro e u10 ⟨rfl, hb10⟩
  have HD10 := Lib.hid (Below.then HD0.out hb10 (Nat.le_refl _))
  have HB10x := Lib.hid (Below.then HB0.out hb10 (Nat.le_refl _))
  clear hb10
  refine ⟨_, rfl, ?_⟩
  clear HCL hHeld
  have hHeld := HD10.out
  refine ⟨hHeld, ?_⟩
  simp only [Act.put, List.setIfInBounds_toArray, List.set_cons_zero, List.set_cons_succ]
  refine held_take (i := 9) (d := 26) (v := .bool false) rfl rfl (by kernel_rfl) (by kernel_rfl) (by kernel_rfl) (fun _ _ _ h => h) (by rfl) (fun W _ => by go_simp) hHeld ?_
  simp only [Act.put, List.setIfInBounds_toArray, List.set_cons_zero, List.set_cons_succ]
  refine held_take (i := 10) (d := 27) (v := .bool false) rfl rfl (by kernel_rfl) (by kernel_rfl) (by kernel_rfl) (fun _ _ _ h => h) (by rfl) (fun W _ => by go_simp) hHeld ?_
  simp only [Act.put, List.setIfInBounds_toArray, List.set_cons_zero, List.set_cons_succ]
  refine held_take (i := 11) (d := 28) (v := .bool false) rfl rfl (by kernel_rfl) (by kernel_rfl) (by kernel_rfl) (fun _ _ _ h => h) (by rfl) (fun W _ => run_move_is (.tmp 27) rfl rfl W) hHeld ?_
  simp only [Act.put, List.setIfInBounds_toArray, List.set_cons_zero, List.set_cons_succ]
  refine held_take (i := 12) (d := 29) (v := .pointer P) rfl rfl (by kernel_rfl) (by kernel_rfl) (by kernel_rfl) (fun _ _ _ h => h) (by rfl) (fun W _ => run_move_is (.tmp 0) rfl rfl W) hHeld ?_
  simp only [Act.put, List.setIfInBounds_toArray, List.set_cons_zero, List.set_cons_succ]
  refine held_take (i := 14) (d := 31) (v := .pointer (some ⟨m, 0, none⟩)) rfl rfl (by kernel_rfl) (by kernel_rfl) (by kernel_rfl) (fun _ _ _ h => h) (by rfl) (fun W hW => by have q := (HLD.out W hW).1; go_simp) hHeld ?_
  simp only [Act.put, List.setIfInBounds_toArray, List.set_cons_zero, List.set_cons_succ]
  refine held_take (i := 15) (d := 32) (v := .pointer (some ⟨m, 0, none⟩)) rfl rfl (by kernel_rfl) (by kernel_rfl) (by kernel_rfl) (fun _ _ _ h => h) (by rfl) (fun W _ => by go_simp) hHeld ?_
  simp only [Act.put, List.setIfInBounds_toArray, List.set_cons_zero, List.set_cons_succ]
  refine held_take (i := 16) (d := 33) (v := .pointer (some ⟨m, 1, none⟩)) rfl rfl (by kernel_rfl) (by kernel_rfl) (by kernel_rfl) (fun _ _ _ h => h) (by rfl) (fun W _ => by go_simp) hHeld ?_
  simp only [Act.put, List.setIfInBounds_toArray, List.set_cons_zero, List.set_cons_succ]
  refine held_take (i := 17) (d := 34) (v := .slice Am L.length cm) rfl rfl (by kernel_rfl) (by kernel_rfl) (by kernel_rfl) (fun _ _ _ h => h) (by rfl) (fun W hW => by have q := (HLD.out W hW).2.2; go_simp) hHeld ?_
  simp only [Act.put, List.setIfInBounds_toArray, List.set_cons_zero, List.set_cons_succ]
  refine held_take (i := 18) (d := 35) (v := .int .i64 (L.length : Int)) rfl rfl (by kernel_rfl) (by kernel_rfl) (by kernel_rfl) (fun _ _ _ h => h) (by rfl) (fun W _ => by go_simp) hHeld ?_
  simp only [Act.put, List.setIfInBounds_toArray, List.set_cons_zero, List.set_cons_succ]
  have HCL := Lib.hid (HLE.out u10 HB10x.out)
  refine held_one (i := 13) (by kernel_rfl) ?_
  refine held_callX (d := 30) rfl rfl (by rfl) rfl (by kernel_rfl) Try.func25 (by kernel_rfl) HCL.out ?_
  rintro e u11 ⟨rfl, hb11⟩
  have HD11 := Lib.hid (Below.then HD10.out hb11 (Nat.le_refl _))
  have HB11x := Lib.hid (Below.then HB10x.out hb11 (Nat.le_refl _))
  clear hb11
  refine ⟨_, rfl, ?_⟩
  clear HCL hHeld
  have hHeld := HD11.out
  refine ⟨hHeld, ?_⟩
  simp only [Act.put, List.setIfInBounds_toArray, List.set_cons_zero, List.set_cons_succ]
  refine held_take (i := 19) (d := 36) (v := .bool false) rfl rfl (by kernel_rfl) (by kernel_rfl) (by kernel_rfl) (fun _ _ _ h => h) (by rfl) (fun W _ => by go_simp) hHeld ?_
  simp only [Act.put, List.setIfInBounds_toArray, List.set_cons_zero, List.set_cons_succ]
  refine held_take (i := 20) (d := 37) (v := .bool false) rfl rfl (by kernel_rfl) (by kernel_rfl) (by kernel_rfl) (fun _ _ _ h => h) (by rfl) (fun W _ => by go_simp) hHeld ?_
  simp only [Act.put, List.setIfInBounds_toArray, List.set_cons_zero, List.set_cons_succ]
  refine held_take (i := 21) (d := 38) (v := .bool false) rfl rfl (by kernel_rfl) (by kernel_rfl) (by kernel_rfl) (fun _ _ _ h => h) (by rfl) (fun W _ => run_move_is (.tmp 37) rfl rfl W) hHeld ?_
  simp only [Act.put, List.setIfInBounds_toArray, List.set_cons_zero, List.set_cons_succ]
  refine held_take (i := 22) (d := 39) (v := .pointer P) rfl rfl (by kernel_rfl) (by kernel_rfl) (by kernel_rfl) (fun _ _ _ h => h) (by rfl) (fun W _ => run_move_is (.tmp 0) rfl rfl W) hHeld ?_
  simp only [Act.put, List.setIfInBounds_toArray, List.set_cons_zero, List.set_cons_succ]
  refine held_take (i := 23) (d := 40) (v := .int .i64 z) rfl rfl (by kernel_rfl) (by kernel_rfl) (by kernel_rfl) (fun _ _ _ h => h) (by rfl) (fun W hW => by have q := (HLD.out W hW).2.1; go_simp) hHeld ?_
  simp only [Act.put, List.setIfInBounds_toArray, List.set_cons_zero, List.set_cons_succ]
  refine held_take (i := 25) (d := 42) (v := .pointer (some ⟨m, 0, none⟩)) rfl rfl (by kernel_rfl) (by kernel_rfl) (by kernel_rfl) (fun _ _ _ h => h) (by rfl) (fun W hW => by have q := (HLD.out W hW).1; go_simp) hHeld ?_
  simp only [Act.put, List.setIfInBounds_toArray, List.set_cons_zero, List.set_cons_succ]
  refine held_take (i := 26) (d := 43) (v := .int .i64 z) rfl rfl (by kernel_rfl) (by kernel_rfl) (by kernel_rfl) (fun _ _ _ h => h) (by rfl) (fun W hW => by have q := (HLD.out W hW).2.1; go_simp) hHeld ?_
  simp only [Act.put, List.setIfInBounds_toArray, List.set_cons_zero, List.set_cons_succ]
  have HCL := Lib.hid (HRO.out u11 HB11x.out)
  refine held_one (i := 24) (by kernel_rfl) ?_
  refine held_callX (d := 41) rfl rfl (by rfl) rfl (by kernel_rfl) Try.func31 (by kernel_rfl) HCL.out ?_
  rintro e u12 ⟨rfl, hb12⟩
  have HD12 := Lib.hid (Below.then HD11.out hb12 (Nat.le_refl _))
  have HB12x := Lib.hid (Below.then HB11x.out hb12 (Nat.le_refl _))
  clear hb12
  refine ⟨_, rfl, ?_⟩
  clear HCL hHeld
  have hHeld := HD12.out
  refine ⟨hHeld, ?_⟩
  simp only [Act.put, List.setIfInBounds_toArray, List.set_cons_zero, List.set_cons_succ]
  have HCL := Lib.hid (HRM.out u12 HB12x.out)
  refine held_one (i := 27) (by kernel_rfl) ?_
  refine held_callX (d := 44) rfl rfl (by rfl) rfl (by kernel_rfl) Try.func43 (by kernel_rfl) HCL.out ?_
  rintro e u13 ⟨rfl, hb13⟩
  have HD13 := Lib.hid (Below.then HD12.out hb13 (Nat.le_refl _))
  have HB13x := Lib.hid (Below.then HB12x.out hb13 (Nat.le_refl _))
  clear hb13
  refine ⟨_, rfl, ?_⟩
  clear HCL hHeld
  have hHeld := HD13.out
  refine ⟨hHeld, ?_⟩
  simp only [Act.put, List.setIfInBounds_toArray, List.set_cons_zero, List.set_cons_succ]
  refine held_take (i := 28) (d := 45) (v := .bool false) rfl rfl (by kernel_rfl) (by kernel_rfl) (by kernel_rfl) (fun _ _ _ h => h) (by rfl) (fun W _ => by have e := bne_self_eq_false qr; go_simp) hHeld ?_
  simp only [Act.put, List.setIfInBounds_toArray, List.set_cons_zero, List.set_cons_succ]
  refine held_take (i := 29) (d := 46) (v := .bool false) rfl rfl (by kernel_rfl) (by kernel_rfl) (by kernel_rfl) (fun _ _ _ h => h) (by rfl) (fun W _ => by go_simp) hHeld ?_
  simp only [Act.put, List.setIfInBounds_toArray, List.set_cons_zero, List.set_cons_succ]
  refine held_take (i := 30) (d := 47) (v := .bool false) rfl rfl (by kernel_rfl) (by kernel_rfl) (by kernel_rfl) (fun _ _ _ h => h) (by rfl) (fun W _ => run_move_is (.tmp 46) rfl rfl W) hHeld ?_
  simp only [Act.put, List.setIfInBounds_toArray, List.set_cons_zero, List.set_cons_succ]
  refine held_take (i := 31) (d := 48) (v := .pointer P) rfl rfl (by kernel_rfl) (by kernel_rfl) (by kernel_rfl) (fun _ _ _ h => h) (by rfl) (fun W _ => run_move_is (.tmp 0) rfl rfl W) hHeld ?_
  simp only [Act.put, List.setIfInBounds_toArray, List.set_cons_zero, List.set_cons_succ]
  refine held_take (i := 32) (d := 49) (v := .int .i64 z) rfl rfl (by kernel_rfl) (by kernel_rfl) (by kernel_rfl) (fun _ _ _ h => h) (by rfl) (fun W hW => by have q := (HLD.out W hW).2.1; go_simp) hHeld ?_
  simp only [Act.put, List.setIfInBounds_toArray, List.set_cons_zero, List.set_cons_succ]
  refine held_take (i := 34) (d := 51) (v := .pointer (some ⟨m, 0, none⟩)) rfl rfl (by kernel_rfl) (by kernel_rfl) (by kernel_rfl) (fun _ _ _ h => h) (by rfl) (fun W hW => by have q := (HLD.out W hW).1; go_simp) hHeld ?_
  simp only [Act.put, List.setIfInBounds_toArray, List.set_cons_zero, List.set_cons_succ]
  refine held_take (i := 35) (d := 52) (v := .int .i64 z) rfl rfl (by kernel_rfl) (by kernel_rfl) (by kernel_rfl) (fun _ _ _ h => h) (by rfl) (fun W hW => by have q := (HLD.out W hW).2.1; go_simp) hHeld ?_
  simp only [Act.put, List.setIfInBounds_toArray, List.set_cons_zero, List.set_cons_succ]
  have HCL := Lib.hid (HRE.out u13 HB13x.out)
  refine held_one (i := 33) (by kernel_rfl) ?_
  refine held_callX (d := 50) rfl rfl (by rfl) rfl (by kernel_rfl) Try.func32 (by kernel_rfl) HCL.out ?_
  rintro e u14 ⟨rfl, hb14⟩
  have HD14 := Lib.hid (Below.then HD13.out hb14 (Nat.le_refl _))
  have HB14x := Lib.hid (Below.then HB13x.out hb14 (Nat.le_refl _))
  clear hb14
  refine ⟨_, rfl, ?_⟩
  clear HCL hHeld
  have hHeld := HD14.out
  refine ⟨hHeld, ?_⟩
  simp only [Act.put, List.setIfInBounds_toArray, List.set_cons_zero, List.set_cons_succ]
  have HCL := Lib.hid (HRR.out u14 HB14x.out)
  refine held_one (i := 36) (by kernel_rfl) ?_
  refine held_callX (d := 53) rfl rfl (by rfl) rfl (by kernel_rfl) Try.func45 (by kernel_rfl) HCL.out ?_
  rintro e u15 ⟨rfl, hb15⟩
  have HD15 := Lib.hid (Below.then HD14.out hb15 (Nat.le_refl _))
  have HB15x := Lib.hid (Below.then HB14x.out hb15 (Nat.le_refl _))
  clear hb15
  refine ⟨_, rfl, ?_⟩
  clear HCL hHeld
  have hHeld := HD15.out
  refine ⟨hHeld, ?_⟩
  simp only [Act.put, List.setIfInBounds_toArray, List.set_cons_zero, List.set_cons_succ]
  refine held_take (i := 37) (d := 54) (v := .bool false) rfl rfl (by kernel_rfl) (by kernel_rfl) (by kernel_rfl) (fun _ _ _ h => h) (by rfl) (fun W _ => by go_simp) hHeld ?_
  simp only [Act.put, List.setIfInBounds_toArray, List.set_cons_zero, List.set_cons_succ]
  refine held_take (i := 38) (d := 55) (v := .bool false) rfl rfl (by kernel_rfl) (by kernel_rfl) (by kernel_rfl) (fun _ _ _ h => h) (by rfl) (fun W _ => by go_simp) hHeld ?_
  simp only [Act.put, List.setIfInBounds_toArray, List.set_cons_zero, List.set_cons_succ]
  refine held_take (i := 39) (d := 56) (v := .bool false) rfl rfl (by kernel_rfl) (by kernel_rfl) (by kernel_rfl) (fun _ _ _ h => h) (by rfl) (fun W _ => run_move_is (.tmp 55) rfl rfl W) hHeld ?_
  simp only [Act.put, List.setIfInBounds_toArray, List.set_cons_zero, List.set_cons_succ]
  refine held_take (i := 40) (d := 57) (v := .pointer P) rfl rfl (by kernel_rfl) (by kernel_rfl) (by kernel_rfl) (fun _ _ _ h => h) (by rfl) (fun W _ => run_move_is (.tmp 0) rfl rfl W) hHeld ?_
  simp only [Act.put, List.setIfInBounds_toArray, List.set_cons_zero, List.set_cons_succ]
  refine held_take (i := 41) (d := 58) (v := .int .i64 z) rfl rfl (by kernel_rfl) (by kernel_rfl) (by kernel_rfl) (fun _ _ _ h => h) (by rfl) (fun W hW => by have q := (HLD.out W hW).2.1; go_simp) hHeld ?_
  simp only [Act.put, List.setIfInBounds_toArray, List.set_cons_zero, List.set_cons_succ]
  refine held_take (i := 43) (d := 60) (v := .pointer (some ⟨m, 0, none⟩)) rfl rfl (by kernel_rfl) (by kernel_rfl) (by kernel_rfl) (fun _ _ _ h => h) (by rfl) (fun W hW => by have q := (HLD.out W hW).1; go_simp) hHeld ?_
  simp only [Act.put, List.setIfInBounds_toArray, List.set_cons_zero, List.set_cons_succ]
  refine held_take (i := 44) (d := 61) (v := .int .i64 z) rfl rfl (by kernel_rfl) (by kernel_rfl) (by kernel_rfl) (fun _ _ _ h => h) (by rfl) (fun W hW => by have q := (HLD.out W hW).2.1; go_simp) hHeld ?_
  simp only [Act.put, List.setIfInBounds_toArray, List.set_cons_zero, List.set_cons_succ]
  have HCL := Lib.hid (HMI.out u15 HB15x.out)
  refine held_one (i := 42) (by kernel_rfl) ?_
  refine held_callX (d := 59) rfl rfl (by rfl) rfl (by kernel_rfl) Try.func46 (by kernel_rfl) HCL.out ?_
  rintro e u16 ⟨rfl, hb16⟩
  have HD16 := Lib.hid (Below.then HD15.out hb16 (Nat.le_refl _))
  have HB16x := Lib.hid (Below.then HB15x.out hb16 (Nat.le_refl _))
  clear hb16
  refine ⟨_, rfl, ?_⟩
  clear HCL hHeld
  have hHeld := HD16.out
  refine ⟨hHeld, ?_⟩
  simp only [Act.put, List.setIfInBounds_toArray, List.set_cons_zero, List.set_cons_succ]
  have HCL := Lib.hid (HMR.out u16 HB16x.out)
  refine held_one (i := 45) (by kernel_rfl) ?_
  refine held_callX (d := 62) rfl rfl (by rfl) rfl (by kernel_rfl) Try.func47 (by kernel_rfl) HCL.out ?_
  rintro e u17 ⟨rfl, hb17⟩
  have HD17 := Lib.hid (Below.then HD16.out hb17 (Nat.le_refl _))
  have HB17x := Lib.hid (Below.then HB16x.out hb17 (Nat.le_refl _))
  clear hb17
  refine ⟨_, rfl, ?_⟩
  clear HCL hHeld
  have hHeld := HD17.out
  refine ⟨hHeld, ?_⟩
  simp only [Act.put, List.setIfInBounds_toArray, List.set_cons_zero, List.set_cons_succ]
  refine held_take (i := 46) (d := 63) (v := .bool false) rfl rfl (by kernel_rfl) (by kernel_rfl) (by kernel_rfl) (fun _ _ _ h => h) (by rfl) (fun W _ => by go_simp) hHeld ?_
  simp only [Act.put, List.setIfInBounds_toArray, List.set_cons_zero, List.set_cons_succ]
  refine held_take (i := 47) (d := 64) (v := .bool false) rfl rfl (by kernel_rfl) (by kernel_rfl) (by kernel_rfl) (fun _ _ _ h => h) (by rfl) (fun W _ => by go_simp) hHeld ?_
  simp only [Act.put, List.setIfInBounds_toArray, List.set_cons_zero, List.set_cons_succ]
  refine held_take (i := 48) (d := 65) (v := .bool false) rfl rfl (by kernel_rfl) (by kernel_rfl) (by kernel_rfl) (fun _ _ _ h => h) (by rfl) (fun W _ => run_move_is (.tmp 64) rfl rfl W) hHeld ?_
  simp only [Act.put, List.setIfInBounds_toArray, List.set_cons_zero, List.set_cons_succ]
  refine held_take (i := 49) (d := 66) (v := .pointer P) rfl rfl (by kernel_rfl) (by kernel_rfl) (by kernel_rfl) (fun _ _ _ h => h) (by rfl) (fun W _ => run_move_is (.tmp 0) rfl rfl W) hHeld ?_
  simp only [Act.put, List.setIfInBounds_toArray, List.set_cons_zero, List.set_cons_succ]
  refine held_take (i := 51) (d := 68) (v := .pointer (some ⟨m, 0, none⟩)) rfl rfl (by kernel_rfl) (by kernel_rfl) (by kernel_rfl) (fun _ _ _ h => h) (by rfl) (fun W hW => by have q := (HLD.out W hW).1; go_simp) hHeld ?_
  simp only [Act.put, List.setIfInBounds_toArray, List.set_cons_zero, List.set_cons_succ]
  refine held_take (i := 52) (d := 69) (v := .pointer (some ⟨m, 0, none⟩)) rfl rfl (by kernel_rfl) (by kernel_rfl) (by kernel_rfl) (fun _ _ _ h => h) (by rfl) (fun W _ => by go_simp) hHeld ?_
  simp only [Act.put, List.setIfInBounds_toArray, List.set_cons_zero, List.set_cons_succ]
  refine held_take (i := 53) (d := 70) (v := .pointer (some ⟨m, 1, none⟩)) rfl rfl (by kernel_rfl) (by kernel_rfl) (by kernel_rfl) (fun _ _ _ h => h) (by rfl) (fun W _ => by go_simp) hHeld ?_
  simp only [Act.put, List.setIfInBounds_toArray, List.set_cons_zero, List.set_cons_succ]
  refine held_take (i := 54) (d := 71) (v := .slice Am L.length cm) rfl rfl (by kernel_rfl) (by kernel_rfl) (by kernel_rfl) (fun _ _ _ h => h) (by rfl) (fun W hW => by have q := (HLD.out W hW).2.2; go_simp) hHeld ?_
  simp only [Act.put, List.setIfInBounds_toArray, List.set_cons_zero, List.set_cons_succ]
  have HCL := Lib.hid (HDG.out u17 HB17x.out)
  refine held_one (i := 50) (by kernel_rfl) ?_
  refine held_callX (d := 67) rfl rfl (by rfl) rfl (by kernel_rfl) Try.func26 (by kernel_rfl) HCL.out ?_
  rintro e u18 ⟨rfl, hb18⟩
  have HD18 := Lib.hid (Below.then HD17.out hb18 (Nat.le_refl _))
  have HB18x := Lib.hid (Below.then HB17x.out hb18 (Nat.le_refl _))
  clear hb18
  refine ⟨_, rfl, ?_⟩
  clear HCL hHeld
  have hHeld := HD18.out
  refine ⟨hHeld, ?_⟩
  simp only [Act.put, List.setIfInBounds_toArray, List.set_cons_zero, List.set_cons_succ]
  have HCL := Lib.hid (HDO.out u18 HB18x.out)
  refine held_one (i := 55) (by kernel_rfl) ?_
  refine held_callX (d := 72) rfl rfl (by rfl) rfl (by kernel_rfl) Try.func48 (by kernel_rfl) HCL.out ?_
  rintro e u19 ⟨rfl, hb19⟩
  have HD19 := Lib.hid (Below.then HD18.out hb19 (Nat.le_refl _))
  have HB19x := Lib.hid (Below.then HB18x.out hb19 (Nat.le_refl _))
  clear hb19
  refine ⟨_, rfl, ?_⟩
  clear HCL hHeld
  have hHeld := HD19.out
  refine ⟨hHeld, ?_⟩
  simp only [Act.put, List.setIfInBounds_toArray, List.set_cons_zero, List.set_cons_succ]
  refine held_take (i := 56) (d := 73) (v := .bool false) rfl rfl (by kernel_rfl) (by kernel_rfl) (by kernel_rfl) (fun _ _ _ h => h) (by rfl) (fun W _ => by go_simp) hHeld ?_
  simp only [Act.put, List.setIfInBounds_toArray, List.set_cons_zero, List.set_cons_succ]
  refine held_take (i := 57) (d := 74) (v := .bool false) rfl rfl (by kernel_rfl) (by kernel_rfl) (by kernel_rfl) (fun _ _ _ h => h) (by rfl) (fun W _ => by go_simp) hHeld ?_
  simp only [Act.put, List.setIfInBounds_toArray, List.set_cons_zero, List.set_cons_succ]
  refine held_take (i := 58) (d := 75) (v := .bool false) rfl rfl (by kernel_rfl) (by kernel_rfl) (by kernel_rfl) (fun _ _ _ h => h) (by rfl) (fun W _ => run_move_is (.tmp 74) rfl rfl W) hHeld ?_
  simp only [Act.put, List.setIfInBounds_toArray, List.set_cons_zero, List.set_cons_succ]
  refine held_take (i := 59) (d := 76) (v := .pointer P) rfl rfl (by kernel_rfl) (by kernel_rfl) (by kernel_rfl) (fun _ _ _ h => h) (by rfl) (fun W _ => run_move_is (.tmp 0) rfl rfl W) hHeld ?_
  simp only [Act.put, List.setIfInBounds_toArray, List.set_cons_zero, List.set_cons_succ]
  refine held_take (i := 62) (d := 79) (v := .pointer (some ⟨m, 0, none⟩)) rfl rfl (by kernel_rfl) (by kernel_rfl) (by kernel_rfl) (fun _ _ _ h => h) (by rfl) (fun W hW => by have q := (HLD.out W hW).1; go_simp) hHeld ?_
  simp only [Act.put, List.setIfInBounds_toArray, List.set_cons_zero, List.set_cons_succ]
  refine held_take (i := 63) (d := 80) (v := .pointer (some ⟨m, 0, none⟩)) rfl rfl (by kernel_rfl) (by kernel_rfl) (by kernel_rfl) (fun _ _ _ h => h) (by rfl) (fun W _ => by go_simp) hHeld ?_
  simp only [Act.put, List.setIfInBounds_toArray, List.set_cons_zero, List.set_cons_succ]
  refine held_take (i := 64) (d := 81) (v := .pointer (some ⟨m, 1, none⟩)) rfl rfl (by kernel_rfl) (by kernel_rfl) (by kernel_rfl) (fun _ _ _ h => h) (by rfl) (fun W _ => by go_simp) hHeld ?_
  simp only [Act.put, List.setIfInBounds_toArray, List.set_cons_zero, List.set_cons_succ]
  refine held_take (i := 65) (d := 82) (v := .slice Am L.length cm) rfl rfl (by kernel_rfl) (by kernel_rfl) (by kernel_rfl) (fun _ _ _ h => h) (by rfl) (fun W hW => by have q := (HLD.out W hW).2.2; go_simp) hHeld ?_
  simp only [Act.put, List.setIfInBounds_toArray, List.set_cons_zero, List.set_cons_succ]
  have HCL := Lib.hid (HBY.out u19 HB19x.out)
  refine held_one (i := 60) (by kernel_rfl) ?_
  refine held_callX (d := 77) rfl rfl (by rfl) rfl (by kernel_rfl) Try.func23 (by kernel_rfl) HCL.out ?_
  rintro e u20 ⟨v20, rfl, ho20, hb20⟩
  obtain ⟨A20, n20, c20, rfl, hr20⟩ := ho20.shape
  have HD20 := Lib.hid (Below.then HD19.out hb20 (Nat.le_refl _))
  have HB20x := Lib.hid (Below.then HB19x.out hb20 (Nat.le_refl _))
  have HT20 := Lib.hid (fun W (hW : Below u20.heap.size u20 W) => bts_as (hr20.below hW) HSS)
  clear hb20
  clear ho20 hr20
  refine ⟨_, rfl, ?_⟩
  clear HCL hHeld
  have hHeld := HD20.out
  refine ⟨hHeld, ?_⟩
  simp only [Act.put, List.setIfInBounds_toArray, List.set_cons_zero, List.set_cons_succ]
  refine held_two (i := 61) (j := 66) (by kernel_rfl) ?_ ?_
  · have hcv := HT20.out u20 (Below.refl _ _)
    refine held_make (w' := u20) (d := 78) rfl rfl (by rfl) (v := .string S) (by go_simp) ⟨HD20.out, ?_⟩
    simp only [Act.put, List.setIfInBounds_toArray, List.set_cons_zero, List.set_cons_succ]
    clear hcv
    refine held_one (i := 66) (by kernel_rfl) ?_
    have HCL := Lib.hid (HBO.out u20 HB20x.out)
    refine held_callX (d := 83) rfl rfl (by rfl) rfl (by kernel_rfl) Try.func19 (by kernel_rfl) HCL.out ?_
    rintro e u21 ⟨v21, rfl, ho21, hb21⟩
    obtain ⟨A21, n21, c21, rfl, hr21⟩ := ho21.shape
    have HD21 := Lib.hid (Below.then HD20.out hb21 (Nat.le_refl _))
    have HB21x := Lib.hid (Below.then HB20x.out hb21 (Nat.le_refl _))
    have HT21 := Lib.hid (bts_as hr21 HSS)
    have hcv0 := HT20.out u21 hb21
    clear ho21 hr21 hb21
    refine ⟨_, rfl, ?_⟩
    clear HCL hHeld
    have hHeld := HD21.out
    refine ⟨hHeld, ?_⟩
    simp only [Act.put, List.setIfInBounds_toArray, List.set_cons_zero, List.set_cons_succ]
    have hcv := HT21.out
    refine held_one (i := 67) (by kernel_rfl) ?_
    refine held_make (w' := u21) (d := 84) rfl rfl (by rfl) (v := .string S) (by go_simp) ⟨HD21.out, ?_⟩
    simp only [Act.put, List.setIfInBounds_toArray, List.set_cons_zero, List.set_cons_succ]
    clear hcv hcv0
    refine held_take (i := 68) (d := 85) (v := .bool false) rfl rfl (by kernel_rfl) (by kernel_rfl) (by kernel_rfl) (fun _ _ _ h => h) (by rfl) (fun W _ => by go_simp) hHeld ?_
    simp only [Act.put, List.setIfInBounds_toArray, List.set_cons_zero, List.set_cons_succ]
    refine held_take (i := 69) (d := 86) (v := .bool false) rfl rfl (by kernel_rfl) (by kernel_rfl) (by kernel_rfl) (fun _ _ _ h => h) (by rfl) (fun W _ => by go_simp) hHeld ?_
    simp only [Act.put, List.setIfInBounds_toArray, List.set_cons_zero, List.set_cons_succ]
    refine wpAnyH_done (by kernel_rfl) ?_ _
    clear hHeld
    have HDZ := HD21
    have HBZ := HB21x
    clear HT20 HT21 HSE HD10 HB10x HD11 HB11x HD12 HB12x HD13 HB13x HD14 HB14x HD15 HB15x HD16 HB16x HD17 HB17x HD18 HB18x HD19 HB19x HD20 HB20x HD21 HB21x
    have HL1b := Lib.hid (HL1.out.go HDZ.out)
    have HL2b := Lib.hid (HL2.out.go HDZ.out)
    have HL3b := Lib.hid (HL3.out.go HDZ.out)
    have HQY := Lib.hid (queryW_any P z (u21.alloc (.cells #[.int .i64 0] 3)))
    rw [show (u21.alloc (.cells #[.int .i64 0] 3)).heap.size = u21.heap.size + 1 by simp] at HQY
    have HRZ := Lib.hid (HQ.out u21 HBZ.out)
    have HKZ := Lib.hid (HKM.out u21 HBZ.out)
    have HMZ := Lib.hid (HMB.out u21 HBZ.out)
    have hlz1 := HL1b.out.lt
    have hlz2 := HL2b.out.lt
    have hlz3 := HL3b.out.lt
    have hlzm := lt_of_some HMZ.out
    have l2 := ((HL2b.out.go ((Below.refl u21.heap.size u21).alloc (Nat.le_refl _) (.cells #[.int .i64 0] 3)))).cell
    clear HD0 HB0 HLD HL1 HL2 HL3 HX2 HB2 HQ HLE HRO HRM HRE HRR HMI HMR HDG HBY HKM HKB HMB HDO HBO HSS HBA hlm HDZ
    go_wp2_with fail
    have HKC : Hid (Cel (u21.alloc (.cells #[.int .i64 0] 3)) u21.heap.size 3 (.int .i64 0)) := Lib.hid Cel.new
    refine HQY.out.mono ?_
    rintro e w6 ⟨rfl, hw6⟩
    have hs4 : ((u21.alloc (.cells #[.int .i64 0] 3)).alloc (.cells #[.int .i64 z] 3)).heap.size = u21.heap.size + 1 + 1 := by simp
    have hs5 : (((u21.alloc (.cells #[.int .i64 0] 3)).alloc (.cells #[.int .i64 z] 3)).alloc (.cells #[.pointer P] 31)).heap.size = u21.heap.size + 1 + 2 := by simp
    have hz6 : w6.heap.size = u21.heap.size + 4 := by rw [hw6]; simp
    have HBW : Hid (Below u21.heap.size u21 w6) := Lib.hid (by
      rw [hw6]
      exact ((((Below.refl _ _).alloc (Nat.le_refl _) _).alloc (by simp) _).alloc (by simp; omega) _).alloc (by simp; omega) _)
    have HC0 : Hid (Cel w6 u21.heap.size 3 (.int .i64 0)) := Lib.hid (by
      rw [hw6]
      exact ((HKC.out.go ((Below.refl _ _).alloc (Nat.le_refl _) _)).go ((Below.refl _ _).alloc (Nat.le_refl _) _)).go ((Below.refl _ _).alloc (Nat.le_refl _) _))
    have HC3 : Hid (Cel w6 (u21.heap.size + 1) 3 (.int .i64 z)) := Lib.hid (by
      rw [hw6]
      have h1 := ((Cel.new (w := u21.alloc (.cells #[.int .i64 0] 3)) (t := 3) (v := .int .i64 z)).go ((Below.refl _ _).alloc (Nat.le_refl _) (.cells #[.pointer P] 31))).go ((Below.refl _ _).alloc (Nat.le_refl _) (.cells #[.func (.func 69) #[] #[.pointer (some ⟨u21.heap.size + 1, 0, none⟩)]] 86))
      rw [show (u21.alloc (.cells #[.int .i64 0] 3)).heap.size = u21.heap.size + 1 by simp] at h1
      exact h1)
    have HC1 : Hid (Cel w6 (u21.heap.size + 1 + 1) 31 (.pointer P)) := Lib.hid (by
      rw [hw6, ← hs4]
      exact Cel.new.go ((Below.refl _ _).alloc (Nat.le_refl _) _))
    have HC2 : Hid (Cel w6 (u21.heap.size + 1 + 2) 86 (.func (.func 69) #[] #[.pointer (some ⟨u21.heap.size + 1, 0, none⟩)])) := Lib.hid (by
      rw [hw6, ← hs5]
      exact Cel.new)
    have HI0 : Hid (IQ u21 (fun x => decide (x.p = z)) L [] w6) := Lib.hid ⟨HBW.out, 0, Nat.zero_le _, HC0.out, rfl⟩
    clear hw6 hs4 hs5 HQY HKC HC0 l2
    go_wp2
    refine (wpIn_wide (n := 6)).1 ?_
    refine' range_told_box (Kp := Ko u21.heap.size) rfl (by omega) (gf := 80) (lb := #[.pointer (some ⟨u21.heap.size + 1 + 1, 0, none⟩), .pointer (some ⟨u21.heap.size + 1 + 2, 0, none⟩)]) rfl trivial (enters_of Try.func80 (by kernel_rfl) rfl)
      (encs := fun x : Nat × Ev5 => #[.int .i64 (x.1 : Int), .agg #[.int .i64 x.2.p, .int .i64 x.2.o, .int .u64 x.2.h, .int .u64 x.2.a, .int .i64 x.2.e]]) (fun _ => rfl) (fun pre x _ => (sls (fun x => decide (x.p = z)) 0 L)[pre.length]? = some x) (fun h k => h.t k) (fun W l o o' _ h hc _ => Ko.b W l o o' h hc) (S := fun xs => xs = sls (fun x => decide (x.p = z)) 0 L) ?seq
      (IQ u21 (fun x => decide (x.p = z)) L) (iq_own (by omega)) HI0.out _ (fun pre x b W => IQ u21 (fun x => decide (x.p = z)) L pre W ∧ (sls (fun x => decide (x.p = z)) 0 L)[pre.length]? = some x ∧ EvB W b x.2.p x.2.o x.2.h x.2.a x.2.e) ?rr ?assign ?body ?done
    case seq =>
      intro l J W hW hJ hY h0
      refine run_qry17 5 l (u21.heap.size + 1 + 1) (u21.heap.size + 1 + 2) (u21.heap.size + 1) z HRZ.out (HBW.out.trans (hW.mono (by omega))) (by omega) (by omega) J (Ko u21.heap.size) (fun _ => True) ?_ trivial (fun _ _ _ _ => trivial) hJ hY (HC1.out.go hW) (HC2.out.go hW) (HC3.out.go hW) h0
      exact fun A B hk _ => ⟨fun g cs t fr hg hc => hk.2 g cs t fr (by omega) hc, trivial⟩
    case rr =>
      rintro pre x b s A B row ⟨h1, h2, h3⟩ hg hrow
      exact ⟨iq_own (by omega) _ _ _ row h1 hg hrow, h2, h3.grown hg (fun r e => (hrow r e).2)⟩
    case assign =>
      intro l pre x W hi hm
      obtain ⟨b, hb⟩ : ∃ b, W.heap.size = b := ⟨_, rfl⟩
      have hbe : Below W.heap.size W (W.alloc (.cells #[.int .i64 x.2.p, .int .i64 x.2.o, .int .u64 x.2.h, .int .u64 x.2.a, .int .i64 x.2.e] 27)) := (Below.refl _ _).alloc (Nat.le_refl _) _
      have HFA : Hid (IQ u21 (fun x => decide (x.p = z)) L pre (W.alloc (.cells #[.int .i64 x.2.p, .int .i64 x.2.o, .int .u64 x.2.h, .int .u64 x.2.a, .int .i64 x.2.e] 27)) ∧ (sls (fun x => decide (x.p = z)) 0 L)[pre.length]? = some x ∧ EvB (W.alloc (.cells #[.int .i64 x.2.p, .int .i64 x.2.o, .int .u64 x.2.h, .int .u64 x.2.a, .int .i64 x.2.e] 27)) b x.2.p x.2.o x.2.h x.2.a x.2.e) :=
        Lib.hid ⟨iq_own (N := u21.heap.size) (Nat.le_refl _) _ _ _ none hi (World.grownBy_alloc W _ none) (fun r e => by cases e), hm, by rw [← hb]; exact EvB.new⟩
      clear hi hm
      gi_wp2
      refine ⟨(KeepsOthers.alloc _ _).from _, Ko.below hbe, b, ?_, HFA.out⟩
      clear HFA hbe hb
      clear W
      exact rfl
    case body =>
      rintro l pre x b W ⟨⟨hbel, t0, ht0, hc0, hp0⟩, hm, hev⟩
      have hne : b ≠ u21.heap.size := fun e => by
        unfold Cel at hc0
        unfold EvB at hev
        rw [e, hc0] at hev
        injection hev with h2
        injection h2 with h3 h4
        exact absurd h4 (by decide)
      have ht0' : t0 < L.length := by
        rcases Nat.lt_or_ge t0 L.length with h | h
        · exact h
        · exact (sls_full h (by rw [hp0]; exact hm)).elim
      have HM := Lib.hid hm
      have HP : Hid (pre.length ≤ L.length) := Lib.hid (by
        rw [← hp0]
        have : ∀ (s : Ev5 → Bool) (l : List Ev5) (i : Nat), (sls s i l).length ≤ l.length := fun s l => by
          induction l with
          | nil => intro i; simp [sls]
          | cons y l ih =>
            intro i
            simp only [sls]
            split
            · simp only [List.length_cons]
              have := ih (i + 1)
              omega
            · simp only [List.length_cons]
              have := ih (i + 1)
              omega
        have h1 := this (fun x => decide (x.p = z)) (L.take t0) 0
        rw [List.length_take] at h1
        omega)
      have HST : Hid (Below u21.heap.size u21 W ∧ Cel W u21.heap.size 3 (.int .i64 (t0 : Int)) ∧ sls (fun x => decide (x.p = z)) 0 (L.take t0) = pre ∧ EvB W b x.2.p x.2.o x.2.h x.2.a x.2.e ∧ KeepsOthers W W ∧ Ko u21.heap.size W W) := Lib.hid ⟨hbel, hc0, hp0, hev, KeepsOthers.refl _, Ko.refl⟩
      have htl0 := ht0'
      clear hbel hc0 hp0 hm hev ht0 ht0'
      gi_wp2
      gi_loopw [] (fun wr => ∃ t : Nat, t < L.length ∧ Hid (Below u21.heap.size u21 wr ∧ Cel wr u21.heap.size 3 (.int .i64 (t : Int)) ∧ sls (fun x => decide (x.p = z)) 0 (L.take t) = pre ∧ EvB wr b x.2.p x.2.o x.2.h x.2.a x.2.e ∧ KeepsOthers W wr ∧ Ko u21.heap.size W wr)) (fun wr => L.length - cnat wr u21.heap.size)
      case atStart => exact ⟨t0, htl0, HST⟩
      case round =>
        obtain ⟨t, ht, hh⟩ := hrel
        clear HST htl0
        obtain ⟨hbel, hc, hp, hev, hko, hkk⟩ := hh.out
        obtain ⟨bm, om, y, hy, rfl, hbm, g0, g1, g2, g3, g4⟩ := (HKZ.out.below hbel).ev_ ht
        have a0 : ∀ z' : Later wr, z'.val.cell? ⟨u21.heap.size, 0, none⟩ = some (.int .i64 (t : Int)) := fun z' => later_old z' hc.cell
        have a1 : ∀ z' : Later wr, z'.val.cell? ⟨ba, 0, none⟩ = some (.pointer (some ⟨m, 0, none⟩)) := fun z' => later_old z' ((hbel.cell (p := ⟨ba, 0, none⟩) hlz1).trans HL1b.out.cell)
        have a2 : ∀ z' : Later wr, z'.val.cell? ⟨m, 1, none⟩ = some (.slice (some ⟨bm, om, none⟩) L.length cm) := fun z' => later_old z' ((hbel.cell (p := ⟨m, 1, none⟩) hlzm).trans HMZ.out)
        have a3 : ∀ z' : Later wr, z'.val.cell? ⟨bm, om + t * 5, none⟩ = some (.int .i64 y.p) := fun z' => later_old z' g0
        have a4 : ∀ z' : Later wr, z'.val.cell? ⟨ba + 1, 0, none⟩ = some (.int .i64 z) := fun z' => later_old z' ((hbel.cell (p := ⟨ba + 1, 0, none⟩) hlz2).trans HL2b.out.cell)
        have d0 : (t : Int) < (L.length : Int) := by omega
        have d2 : (0 : Int) ≤ (t : Int) := by omega
        by_cases hpz : y.p = z
        · have hxe := sls_here hy (decide_eq_true hpz) (by rw [hp]; exact HM.out)
          subst hxe
          simp only at hev
          have dn : (y.p != z) = false := by simpa using hpz
          have b1 : ∀ z' : Later wr, z'.val.cell? ⟨bm, om + t * 5 + 1, none⟩ = some (.int .i64 y.o) := fun z' => later_old z' g1
          have b2 : ∀ z' : Later wr, z'.val.cell? ⟨bm, om + t * 5 + 2, none⟩ = some (.int .u64 y.h) := fun z' => later_old z' g2
          have b3 : ∀ z' : Later wr, z'.val.cell? ⟨bm, om + t * 5 + 3, none⟩ = some (.int .u64 y.a) := fun z' => later_old z' g3
          have b4 : ∀ z' : Later wr, z'.val.cell? ⟨bm, om + t * 5 + 4, none⟩ = some (.int .i64 y.e) := fun z' => later_old z' g4
          have HSL : Hid (sls (fun x => decide (x.p = z)) 0 (L.take (t + 1)) = pre ++ [(t, y)]) := Lib.hid (by rw [sls_next hy, if_pos (decide_eq_true hpz), hp])
          have HBE := Lib.hid hbel
          have HCE := Lib.hid hc
          have HEV := Lib.hid hev
          have HKO := Lib.hid hko
          have HKK := Lib.hid hkk
          have heq := eq_ev_self y.p y.o y.h y.a y.e
          have d3 : IntKind.i64.wrap ((t : Int) + 1) = ((t + 1 : Nat) : Int) := by rw [IntKind.wrap_i64]; omega
          have d5 : ¬ (L.length : Int) ≤ (t : Int) := by omega
          have d6 : decide ((L.length : Int) ≤ (t : Int)) = false := decide_eq_false d5
          have d7 : ¬ L.length ≤ t := by omega
          have d8 : decide (L.length ≤ t) = false := decide_eq_false d7
          clear hpz hh hbel hc hp hev hko hkk hy hbm g0 g1 g2 g3 g4
          gi_wp2
          refine round_region (by kernel_rfl) (by kernel_rfl) (by kernel_rfl) ?_
          repeat (go_big_quiet_step (fail))
          refine wpQuiet_nil ?_
          rintro w7 ⟨⟨_, hq⟩, rfl⟩
          have HQ7 := Lib.hid hq
          have c0 : ∀ z' : Later w7, z'.val.cell? ⟨u21.heap.size, 0, none⟩ = some (.int .i64 (t : Int)) := fun z' => later_old z' (a0 ⟨w7, hq⟩)
          have c1 : ∀ z' : Later w7, z'.val.cell? ⟨ba, 0, none⟩ = some (.pointer (some ⟨m, 0, none⟩)) := fun z' => later_old z' (a1 ⟨w7, hq⟩)
          have c2' : ∀ z' : Later w7, z'.val.cell? ⟨m, 1, none⟩ = some (.slice (some ⟨bm, om, none⟩) L.length cm) := fun z' => later_old z' (a2 ⟨w7, hq⟩)
          have e0 : ∀ z' : Later w7, z'.val.cell? ⟨bm, om + t * 5, none⟩ = some (.int .i64 y.p) := fun z' => later_old z' (a3 ⟨w7, hq⟩)
          have e1 : ∀ z' : Later w7, z'.val.cell? ⟨bm, om + t * 5 + 1, none⟩ = some (.int .i64 y.o) := fun z' => later_old z' (b1 ⟨w7, hq⟩)
          have e2 : ∀ z' : Later w7, z'.val.cell? ⟨bm, om + t * 5 + 2, none⟩ = some (.int .u64 y.h) := fun z' => later_old z' (b2 ⟨w7, hq⟩)
          have e3 : ∀ z' : Later w7, z'.val.cell? ⟨bm, om + t * 5 + 3, none⟩ = some (.int .u64 y.a) := fun z' => later_old z' (b3 ⟨w7, hq⟩)
          have e4 : ∀ z' : Later w7, z'.val.cell? ⟨bm, om + t * 5 + 4, none⟩ = some (.int .i64 y.e) := fun z' => later_old z' (b4 ⟨w7, hq⟩)
          have hev7 := HEV.out.go hq
          have q0 : ∀ z' : Later w7, z'.val.cell? ⟨b, 0, none⟩ = some (.int .i64 y.p) := fun z' => later_old z' hev7.cells.1
          have q1 : ∀ z' : Later w7, z'.val.cell? ⟨b, 1, none⟩ = some (.int .i64 y.o) := fun z' => later_old z' hev7.cells.2.1
          have q2 : ∀ z' : Later w7, z'.val.cell? ⟨b, 2, none⟩ = some (.int .u64 y.h) := fun z' => later_old z' hev7.cells.2.2.1
          have q3 : ∀ z' : Later w7, z'.val.cell? ⟨b, 3, none⟩ = some (.int .u64 y.a) := fun z' => later_old z' hev7.cells.2.2.2.1
          have q4 : ∀ z' : Later w7, z'.val.cell? ⟨b, 4, none⟩ = some (.int .i64 y.e) := fun z' => later_old z' hev7.cells.2.2.2.2
          clear hq hev7 a0 a1 a2 a3 a4 b1 b2 b3 b4
          gi_wp2
          refine round_region (by kernel_rfl) (by kernel_rfl) (by kernel_rfl) ?_
          repeat (go_big_quiet_step (fail))
          refine wpQuiet_nil ?_
          rintro w8 ⟨⟨_, hq8⟩, rfl⟩
          have hq78 := Below.then HQ7.out hq8 (Nat.le_refl _)
          have hc8 := HCE.out.go hq78
          have i0 := hc8.cell
          have i1 := hc8.fr
          have HI8 : Hid (IQ u21 (fun x => decide (x.p = z)) L (pre ++ [(t, y)]) (w8.setCell ⟨u21.heap.size, 0, none⟩ (.int .i64 ((t + 1 : Nat) : Int)))) := Lib.hid
            ⟨(HBE.out.trans (hq78.mono HBE.out.size)).setCell (p := ⟨u21.heap.size, 0, none⟩) (Nat.le_refl _) _, t + 1, by omega, hc8.set _, HSL.out⟩
          have HKF := Lib.hid ((HKO.out.trans (keepsOthers_below hq78)).trans (KeepsOthers.setCell w8 ⟨u21.heap.size, 0, none⟩ (.int .i64 ((t + 1 : Nat) : Int))))
          have HKG : Hid (Ko u21.heap.size W (w8.setCell ⟨u21.heap.size, 0, none⟩ (.int .i64 ((t + 1 : Nat) : Int)))) := Lib.hid ((HKK.out.t (Ko.below hq78)).t (Ko.set _))
          clear hq8 hq78 hc8 c0 c1 c2' e0 e1 e2 e3 e4 q0 q1 q2 q3 q4 heq dn
          gi_wp2
          exact ⟨HKF.out.from _, HKG.out, HI8.out⟩
        · have dn : (y.p != z) = true := by simpa using hpz
          have hsk := sls_skip hy (s := (fun x => decide (x.p = z))) (decide_eq_false hpz)
          have htn : t + 1 < L.length := by
            rcases Nat.lt_or_ge (t + 1) L.length with h | h
            · exact h
            · exact (sls_full h (by rw [hsk, hp]; exact HM.out)).elim
          have hp2 : sls (fun x => decide (x.p = z)) 0 (L.take (t + 1)) = pre := hsk.trans hp
          have HBE := Lib.hid hbel
          have HCE := Lib.hid hc
          have HEV := Lib.hid hev
          have HKO := Lib.hid hko
          have HKK := Lib.hid hkk
          have HP2 := Lib.hid hp2
          have d3 : IntKind.i64.wrap ((t : Int) + 1) = ((t + 1 : Nat) : Int) := by rw [IntKind.wrap_i64]; omega
          clear hpz hh hbel hc hp hp2 hsk hev hko hkk hy hbm g0 g1 g2 g3 g4
          gi_wp2
          refine round_region (by kernel_rfl) (by kernel_rfl) (by kernel_rfl) ?_
          repeat (go_big_quiet_step (fail))
          refine wpQuiet_nil ?_
          rintro w7 ⟨⟨_, hq⟩, rfl⟩
          have hc7 := HCE.out.go hq
          have i0 := hc7.cell
          have i1 := hc7.fr
          have HF : Hid (Below u21.heap.size u21 (w7.setCell ⟨u21.heap.size, 0, none⟩ (.int .i64 ((t + 1 : Nat) : Int))) ∧ Cel (w7.setCell ⟨u21.heap.size, 0, none⟩ (.int .i64 ((t + 1 : Nat) : Int))) u21.heap.size 3 (.int .i64 ((t + 1 : Nat) : Int)) ∧ sls (fun x => decide (x.p = z)) 0 (L.take (t + 1)) = pre ∧ EvB (w7.setCell ⟨u21.heap.size, 0, none⟩ (.int .i64 ((t + 1 : Nat) : Int))) b x.2.p x.2.o x.2.h x.2.a x.2.e ∧ KeepsOthers W (w7.setCell ⟨u21.heap.size, 0, none⟩ (.int .i64 ((t + 1 : Nat) : Int))) ∧ Ko u21.heap.size W (w7.setCell ⟨u21.heap.size, 0, none⟩ (.int .i64 ((t + 1 : Nat) : Int)))) := Lib.hid
            ⟨(HBE.out.trans (hq.mono HBE.out.size)).setCell (p := ⟨u21.heap.size, 0, none⟩) (Nat.le_refl _) _, hc7.set _, HP2.out, (HEV.out.go hq).apart hne _, (HKO.out.trans (keepsOthers_below hq)).trans (KeepsOthers.setCell w7 ⟨u21.heap.size, 0, none⟩ _), (HKK.out.t (Ko.below hq)).t (Ko.set _)⟩
          have HCN := Lib.hid (cnat_of HCE.out)
          have HCM : Hid (cnat (w7.setCell ⟨u21.heap.size, 0, none⟩ (.int .i64 ((t : Int) + 1))) u21.heap.size = t + 1) := Lib.hid (by
            have h := cnat_of HF.out.2.1
            rw [show ((t + 1 : Nat) : Int) = (t : Int) + 1 by omega] at h
            exact h)
          clear hq hc7 a0 a1 a2 a3 a4 dn
          gi_wp2
          go_roundw
          case rel => exact ⟨t + 1, htn, HF⟩
          case measure => first | (rw [HCN.out, HCM.out]; omega) | (have h1 := HCN.out; have h2 := HCM.out; omega)
    case done =>
      rintro D ys W hD rfl ⟨hbel, t0, ht0, hc0, hp0⟩ hK
      have HST : Hid (Below u21.heap.size u21 W ∧ Cel W u21.heap.size 3 (.int .i64 (t0 : Int)) ∧ sls (fun x => decide (x.p = z)) 0 (L.take t0) = sls (fun x => decide (x.p = z)) 0 L ∧ Df W D) := Lib.hid ⟨hbel, hc0, hp0, hK⟩
      have htl0 := ht0
      clear hbel hc0 hp0 hK ht0
      dsimp only
      go_wp2
      go_loopw [] (fun wr => ∃ t : Nat, t ≤ L.length ∧ Hid (Below u21.heap.size u21 wr ∧ Cel wr u21.heap.size 3 (.int .i64 (t : Int)) ∧ sls (fun x => decide (x.p = z)) 0 (L.take t) = sls (fun x => decide (x.p = z)) 0 L ∧ Df wr D)) (fun wr => L.length - cnat wr u21.heap.size)
      case atStart => exact ⟨t0, htl0, HST⟩
      case round =>
        obtain ⟨t, ht, hh⟩ := hrel
        clear HST htl0
        obtain ⟨hbel, hc, hp, hdf⟩ := hh.out
        have a0 : ∀ z' : Later wr, z'.val.cell? ⟨u21.heap.size, 0, none⟩ = some (.int .i64 (t : Int)) := fun z' => later_old z' hc.cell
        have a1 : ∀ z' : Later wr, z'.val.cell? ⟨ba, 0, none⟩ = some (.pointer (some ⟨m, 0, none⟩)) := fun z' => later_old z' ((hbel.cell (p := ⟨ba, 0, none⟩) hlz1).trans HL1b.out.cell)
        have a4 : ∀ z' : Later wr, z'.val.cell? ⟨ba + 1, 0, none⟩ = some (.int .i64 z) := fun z' => later_old z' ((hbel.cell (p := ⟨ba + 1, 0, none⟩) hlz2).trans HL2b.out.cell)
        have HBE := Lib.hid hbel
        have HCE := Lib.hid hc
        have HDF := Lib.hid hdf
        by_cases hlt : t < L.length
        · obtain ⟨bm, om, y, hy, rfl, hbm, g0, g1, g2, g3, g4⟩ := (HKZ.out.below hbel).ev_ hlt
          have a2 : ∀ z' : Later wr, z'.val.cell? ⟨m, 1, none⟩ = some (.slice (some ⟨bm, om, none⟩) L.length cm) := fun z' => later_old z' ((hbel.cell (p := ⟨m, 1, none⟩) hlzm).trans HMZ.out)
          have a3 : ∀ z' : Later wr, z'.val.cell? ⟨bm, om + t * 5, none⟩ = some (.int .i64 y.p) := fun z' => later_old z' g0
          have d0 : (t : Int) < (L.length : Int) := by omega
          have d2 : (0 : Int) ≤ (t : Int) := by omega
          have hpz : ¬ y.p = z := fun e => by
            have h1 := sls_at hy (s := (fun x => decide (x.p = z))) (decide_eq_true e)
            rw [hp] at h1
            have := (List.getElem?_eq_some_iff.1 h1).1
            omega
          have dn : (y.p == z) = false := by simpa using hpz
          have HP2 : Hid (sls (fun x => decide (x.p = z)) 0 (L.take (t + 1)) = sls (fun x => decide (x.p = z)) 0 L) := Lib.hid ((sls_skip hy (s := (fun x => decide (x.p = z))) (decide_eq_false hpz)).trans hp)
          have d3 : IntKind.i64.wrap ((t : Int) + 1) = ((t + 1 : Nat) : Int) := by rw [IntKind.wrap_i64]; omega
          clear hpz hh hbel hc hp hdf hy hbm g0 g1 g2 g3 g4
          go_wp2
          refine wp_region_later (by kernel_rfl) (by kernel_rfl) ?_
          repeat (go_big_quiet_step (fail))
          refine wpQuiet_nil ?_
          rintro w7 ⟨⟨_, hq⟩, rfl⟩
          have HQ7 := Lib.hid hq
          have c0 : ∀ z' : Later w7, z'.val.cell? ⟨u21.heap.size, 0, none⟩ = some (.int .i64 (t : Int)) := fun z' => later_old z' (a0 ⟨w7, hq⟩)
          have c1 : ∀ z' : Later w7, z'.val.cell? ⟨ba, 0, none⟩ = some (.pointer (some ⟨m, 0, none⟩)) := fun z' => later_old z' (a1 ⟨w7, hq⟩)
          have c2' : ∀ z' : Later w7, z'.val.cell? ⟨m, 1, none⟩ = some (.slice (some ⟨bm, om, none⟩) L.length cm) := fun z' => later_old z' (a2 ⟨w7, hq⟩)
          have c3 : ∀ z' : Later w7, z'.val.cell? ⟨bm, om + t * 5, none⟩ = some (.int .i64 y.p) := fun z' => later_old z' (a3 ⟨w7, hq⟩)
          have c4 : ∀ z' : Later w7, z'.val.cell? ⟨ba + 1, 0, none⟩ = some (.int .i64 z) := fun z' => later_old z' (a4 ⟨w7, hq⟩)
          clear hq a0 a1 a2 a3 a4
          go_wp2
          refine wp_region_later (by kernel_rfl) (by kernel_rfl) ?_
          repeat (go_big_quiet_step (fail))
          refine wpQuiet_nil ?_
          rintro w8 ⟨⟨_, hq8⟩, rfl⟩
          have hq78 := Below.then HQ7.out hq8 (Nat.le_refl _)
          have hc8 := HCE.out.go hq78
          have i0 := hc8.cell
          have i1 := hc8.fr
          have HF : Hid (Below u21.heap.size u21 (w8.setCell ⟨u21.heap.size, 0, none⟩ (.int .i64 ((t + 1 : Nat) : Int))) ∧ Cel (w8.setCell ⟨u21.heap.size, 0, none⟩ (.int .i64 ((t + 1 : Nat) : Int))) u21.heap.size 3 (.int .i64 ((t + 1 : Nat) : Int)) ∧ sls (fun x => decide (x.p = z)) 0 (L.take (t + 1)) = sls (fun x => decide (x.p = z)) 0 L ∧ Df (w8.setCell ⟨u21.heap.size, 0, none⟩ (.int .i64 ((t + 1 : Nat) : Int))) D) := Lib.hid
            ⟨(HBE.out.trans (hq78.mono HBE.out.size)).setCell (p := ⟨u21.heap.size, 0, none⟩) (Nat.le_refl _) _, hc8.set _, HP2.out, (HDF.out.go hq78).set _ _⟩
          have HCN := Lib.hid (cnat_of HCE.out)
          have HCM : Hid (cnat (w8.setCell ⟨u21.heap.size, 0, none⟩ (.int .i64 ((t : Int) + 1))) u21.heap.size = t + 1) := Lib.hid (by
            have h := cnat_of HF.out.2.1
            rw [show ((t + 1 : Nat) : Int) = (t : Int) + 1 by omega] at h
            exact h)
          clear hq8 hq78 hc8 c0 c1 c2' c3 c4 dn
          go_wp2
          go_roundw
          case rel => exact ⟨t + 1, by omega, HF⟩
          case measure => first | (rw [HCN.out, HCM.out]; omega) | (have h1 := HCN.out; have h2 := HCM.out; omega)
        · obtain rfl : t = L.length := by omega
          have a2 : ∀ z' : Later wr, z'.val.cell? ⟨m, 1, none⟩ = some (.slice Am L.length cm) := fun z' => later_old z' ((hbel.cell (p := ⟨m, 1, none⟩) hlzm).trans HMZ.out)
          have d0 : ¬ (L.length : Int) < (L.length : Int) := by omega
          have CR0 := Lib.hid (HL3b.out.below hbel hlz3)
          clear hh hbel hc hp hdf hlt
          go_wp2
          refine wp_region_later (by kernel_rfl) (by kernel_rfl) ?_
          repeat (go_big_quiet_step (fail))
          refine wpQuiet_nil ?_
          rintro w7 ⟨⟨_, hq⟩, rfl⟩
          have HK7 := Lib.hid (HDF.out.go hq)
          have CR7 := Lib.hid (CR0.out.go hq)
          have HB7 : Hid (Below w.heap.size w w7) := Lib.hid (HBZ.out.trans ((HBE.out.trans (hq.mono HBE.out.size)).mono HBZ.out.size))
          have e2 := CR7.out.cell
          have f2 := CR7.out.fr
          have HD8 := Lib.hid (HK7.out.set ⟨ba + 1 + 1, 0, none⟩ (.bool true))
          have HB8' := Lib.hid (HB7.out.setCell (p := ⟨ba + 1 + 1, 0, none⟩) (by simp only; omega) (.bool true))
          have D2 := Lib.hid (((CR7.out.set (.bool true)).put HD8.out (.deferred none)).cell)
          have HSZ : Hid (w.heap.size ≤ D) := Lib.hid (by have := HBZ.out.size; omega)
          clear hq a0 a1 a2 a4
          go_wp2
          have d2 := D2.out
          refine leave_one HD8.out ?_
          refine ⟨.bool true, ?_, rfl, HD8.out.below HSZ.out HB8'.out (.deferred none)⟩
          simp [results, Try.f18, go_sem, d2]
  · have HCL := Lib.hid (HBO.out u20 HB20x.out)
    refine held_callX (d := 83) rfl rfl (by rfl) rfl (by kernel_rfl) Try.func19 (by kernel_rfl) HCL.out ?_
    rintro e u21 ⟨v21, rfl, ho21, hb21⟩
    obtain ⟨A21, n21, c21, rfl, hr21⟩ := ho21.shape
    have HD21 := Lib.hid (Below.then HD20.out hb21 (Nat.le_refl _))
    have HB21x := Lib.hid (Below.then HB20x.out hb21 (Nat.le_refl _))
    have HT21 := Lib.hid (bts_as hr21 HSS)
    have hcv0 := HT20.out u21 hb21
    clear ho21 hr21 hb21
    refine ⟨_, rfl, ?_⟩
    clear HCL hHeld
    have hHeld := HD21.out
    refine ⟨hHeld, ?_⟩
    simp only [Act.put, List.setIfInBounds_toArray, List.set_cons_zero, List.set_cons_succ]
    refine held_two (i := 61) (j := 67) (by kernel_rfl) ?_ ?_
    · refine held_make (w' := u21) (d := 78) rfl rfl (by rfl) (v := .string S) (by have q := hcv0; go_simp) ⟨HD21.out, ?_⟩
      simp only [Act.put, List.setIfInBounds_toArray, List.set_cons_zero, List.set_cons_succ]
      refine held_one (i := 67) (by kernel_rfl) ?_
      refine held_make (w' := u21) (d := 84) rfl rfl (by rfl) (v := .string S) (by have q := HT21.out; go_simp) ⟨HD21.out, ?_⟩
      simp only [Act.put, List.setIfInBounds_toArray, List.set_cons_zero, List.set_cons_succ]
      refine held_take (i := 68) (d := 85) (v := .bool false) rfl rfl (by kernel_rfl) (by kernel_rfl) (by kernel_rfl) (fun _ _ _ h => h) (by rfl) (fun W _ => by go_simp) hHeld ?_
      simp only [Act.put, List.setIfInBounds_toArray, List.set_cons_zero, List.set_cons_succ]
      refine held_take (i := 69) (d := 86) (v := .bool false) rfl rfl (by kernel_rfl) (by kernel_rfl) (by kernel_rfl) (fun _ _ _ h => h) (by rfl) (fun W _ => by go_simp) hHeld ?_
      simp only [Act.put, List.setIfInBounds_toArray, List.set_cons_zero, List.set_cons_succ]
      refine wpAnyH_done (by kernel_rfl) ?_ _
      clear hHeld
      have HDZ := HD21
      have HBZ := HB21x
      clear HT20 HT21 HSE HD10 HB10x HD11 HB11x HD12 HB12x HD13 HB13x HD14 HB14x HD15 HB15x HD16 HB16x HD17 HB17x HD18 HB18x HD19 HB19x HD20 HB20x HD21 HB21x
      have HL1b := Lib.hid (HL1.out.go HDZ.out)
      have HL2b := Lib.hid (HL2.out.go HDZ.out)
      have HL3b := Lib.hid (HL3.out.go HDZ.out)
      have HQY := Lib.hid (queryW_any P z (u21.alloc (.cells #[.int .i64 0] 3)))
      rw [show (u21.alloc (.cells #[.int .i64 0] 3)).heap.size = u21.heap.size + 1 by simp] at HQY
      have HRZ := Lib.hid (HQ.out u21 HBZ.out)
      have HKZ := Lib.hid (HKM.out u21 HBZ.out)
      have HMZ := Lib.hid (HMB.out u21 HBZ.out)
      have hlz1 := HL1b.out.lt
      have hlz2 := HL2b.out.lt
      have hlz3 := HL3b.out.lt
      have hlzm := lt_of_some HMZ.out
      have l2 := ((HL2b.out.go ((Below.refl u21.heap.size u21).alloc (Nat.le_refl _) (.cells #[.int .i64 0] 3)))).cell
      clear HD0 HB0 HLD HL1 HL2 HL3 HX2 HB2 HQ HLE HRO HRM HRE HRR HMI HMR HDG HBY HKM HKB HMB HDO HBO HSS HBA hlm HDZ
      go_wp2_with fail
      have HKC : Hid (Cel (u21.alloc (.cells #[.int .i64 0] 3)) u21.heap.size 3 (.int .i64 0)) := Lib.hid Cel.new
      refine HQY.out.mono ?_
      rintro e w6 ⟨rfl, hw6⟩
      have hs4 : ((u21.alloc (.cells #[.int .i64 0] 3)).alloc (.cells #[.int .i64 z] 3)).heap.size = u21.heap.size + 1 + 1 := by simp
      have hs5 : (((u21.alloc (.cells #[.int .i64 0] 3)).alloc (.cells #[.int .i64 z] 3)).alloc (.cells #[.pointer P] 31)).heap.size = u21.heap.size + 1 + 2 := by simp
      have hz6 : w6.heap.size = u21.heap.size + 4 := by rw [hw6]; simp
      have HBW : Hid (Below u21.heap.size u21 w6) := Lib.hid (by
        rw [hw6]
        exact ((((Below.refl _ _).alloc (Nat.le_refl _) _).alloc (by simp) _).alloc (by simp; omega) _).alloc (by simp; omega) _)
      have HC0 : Hid (Cel w6 u21.heap.size 3 (.int .i64 0)) := Lib.hid (by
        rw [hw6]
        exact ((HKC.out.go ((Below.refl _ _).alloc (Nat.le_refl _) _)).go ((Below.refl _ _).alloc (Nat.le_refl _) _)).go ((Below.refl _ _).alloc (Nat.le_refl _) _))
      have HC3 : Hid (Cel w6 (u21.heap.size + 1) 3 (.int .i64 z)) := Lib.hid (by
        rw [hw6]
        have h1 := ((Cel.new (w := u21.alloc (.cells #[.int .i64 0] 3)) (t := 3) (v := .int .i64 z)).go ((Below.refl _ _).alloc (Nat.le_refl _) (.cells #[.pointer P] 31))).go ((Below.refl _ _).alloc (Nat.le_refl _) (.cells #[.func (.func 69) #[] #[.pointer (some ⟨u21.heap.size + 1, 0, none⟩)]] 86))
        rw [show (u21.alloc (.cells #[.int .i64 0] 3)).heap.size = u21.heap.size + 1 by simp] at h1
        exact h1)
      have HC1 : Hid (Cel w6 (u21.heap.size + 1 + 1) 31 (.pointer P)) := Lib.hid (by
        rw [hw6, ← hs4]
        exact Cel.new.go ((Below.refl _ _).alloc (Nat.le_refl _) _))
      have HC2 : Hid (Cel w6 (u21.heap.size + 1 + 2) 86 (.func (.func 69) #[] #[.pointer (some ⟨u21.heap.size + 1, 0, none⟩)])) := Lib.hid (by
        rw [hw6, ← hs5]
        exact Cel.new)
      have HI0 : Hid (IQ u21 (fun x => decide (x.p = z)) L [] w6) := Lib.hid ⟨HBW.out, 0, Nat.zero_le _, HC0.out, rfl⟩
      clear hw6 hs4 hs5 HQY HKC HC0 l2
      go_wp2
      refine (wpIn_wide (n := 6)).1 ?_
      refine' range_told_box (Kp := Ko u21.heap.size) rfl (by omega) (gf := 80) (lb := #[.pointer (some ⟨u21.heap.size + 1 + 1, 0, none⟩), .pointer (some ⟨u21.heap.size + 1 + 2, 0, none⟩)]) rfl trivial (enters_of Try.func80 (by kernel_rfl) rfl)
        (encs := fun x : Nat × Ev5 => #[.int .i64 (x.1 : Int), .agg #[.int .i64 x.2.p, .int .i64 x.2.o, .int .u64 x.2.h, .int .u64 x.2.a, .int .i64 x.2.e]]) (fun _ => rfl) (fun pre x _ => (sls (fun x => decide (x.p = z)) 0 L)[pre.length]? = some x) (fun h k => h.t k) (fun W l o o' _ h hc _ => Ko.b W l o o' h hc) (S := fun xs => xs = sls (fun x => decide (x.p = z)) 0 L) ?seq
        (IQ u21 (fun x => decide (x.p = z)) L) (iq_own (by omega)) HI0.out _ (fun pre x b W => IQ u21 (fun x => decide (x.p = z)) L pre W ∧ (sls (fun x => decide (x.p = z)) 0 L)[pre.length]? = some x ∧ EvB W b x.2.p x.2.o x.2.h x.2.a x.2.e) ?rr ?assign ?body ?done
      case seq =>
        intro l J W hW hJ hY h0
        refine run_qry17 5 l (u21.heap.size + 1 + 1) (u21.heap.size + 1 + 2) (u21.heap.size + 1) z HRZ.out (HBW.out.trans (hW.mono (by omega))) (by omega) (by omega) J (Ko u21.heap.size) (fun _ => True) ?_ trivial (fun _ _ _ _ => trivial) hJ hY (HC1.out.go hW) (HC2.out.go hW) (HC3.out.go hW) h0
        exact fun A B hk _ => ⟨fun g cs t fr hg hc => hk.2 g cs t fr (by omega) hc, trivial⟩
      case rr =>
        rintro pre x b s A B row ⟨h1, h2, h3⟩ hg hrow
        exact ⟨iq_own (by omega) _ _ _ row h1 hg hrow, h2, h3.grown hg (fun r e => (hrow r e).2)⟩
      case assign =>
        intro l pre x W hi hm
        obtain ⟨b, hb⟩ : ∃ b, W.heap.size = b := ⟨_, rfl⟩
        have hbe : Below W.heap.size W (W.alloc (.cells #[.int .i64 x.2.p, .int .i64 x.2.o, .int .u64 x.2.h, .int .u64 x.2.a, .int .i64 x.2.e] 27)) := (Below.refl _ _).alloc (Nat.le_refl _) _
        have HFA : Hid (IQ u21 (fun x => decide (x.p = z)) L pre (W.alloc (.cells #[.int .i64 x.2.p, .int .i64 x.2.o, .int .u64 x.2.h, .int .u64 x.2.a, .int .i64 x.2.e] 27)) ∧ (sls (fun x => decide (x.p = z)) 0 L)[pre.length]? = some x ∧ EvB (W.alloc (.cells #[.int .i64 x.2.p, .int .i64 x.2.o, .int .u64 x.2.h, .int .u64 x.2.a, .int .i64 x.2.e] 27)) b x.2.p x.2.o x.2.h x.2.a x.2.e) :=
          Lib.hid ⟨iq_own (N := u21.heap.size) (Nat.le_refl _) _ _ _ none hi (World.grownBy_alloc W _ none) (fun r e => by cases e), hm, by rw [← hb]; exact EvB.new⟩
        clear hi hm
        gi_wp2
        refine ⟨(KeepsOthers.alloc _ _).from _, Ko.below hbe, b, ?_, HFA.out⟩
        clear HFA hbe hb
        clear W
        exact rfl
      case body =>
        rintro l pre x b W ⟨⟨hbel, t0, ht0, hc0, hp0⟩, hm, hev⟩
        have hne : b ≠ u21.heap.size := fun e => by
          unfold Cel at hc0
          unfold EvB at hev
          rw [e, hc0] at hev
          injection hev with h2
          injection h2 with h3 h4
          exact absurd h4 (by decide)
        have ht0' : t0 < L.length := by
          rcases Nat.lt_or_ge t0 L.length with h | h
          · exact h
          · exact (sls_full h (by rw [hp0]; exact hm)).elim
        have HM := Lib.hid hm
        have HP : Hid (pre.length ≤ L.length) := Lib.hid (by
          rw [← hp0]
          have : ∀ (s : Ev5 → Bool) (l : List Ev5) (i : Nat), (sls s i l).length ≤ l.length := fun s l => by
            induction l with
            | nil => intro i; simp [sls]
            | cons y l ih =>
              intro i
              simp only [sls]
              split
              · simp only [List.length_cons]
                have := ih (i + 1)
                omega
              · simp only [List.length_cons]
                have := ih (i + 1)
                omega
          have h1 := this (fun x => decide (x.p = z)) (L.take t0) 0
          rw [List.length_take] at h1
          omega)
        have HST : Hid (Below u21.heap.size u21 W ∧ Cel W u21.heap.size 3 (.int .i64 (t0 : Int)) ∧ sls (fun x => decide (x.p = z)) 0 (L.take t0) = pre ∧ EvB W b x.2.p x.2.o x.2.h x.2.a x.2.e ∧ KeepsOthers W W ∧ Ko u21.heap.size W W) := Lib.hid ⟨hbel, hc0, hp0, hev, KeepsOthers.refl _, Ko.refl⟩
        have htl0 := ht0'
        clear hbel hc0 hp0 hm hev ht0 ht0'
        gi_wp2
        gi_loopw [] (fun wr => ∃ t : Nat, t < L.length ∧ Hid (Below u21.heap.size u21 wr ∧ Cel wr u21.heap.size 3 (.int .i64 (t : Int)) ∧ sls (fun x => decide (x.p = z)) 0 (L.take t) = pre ∧ EvB wr b x.2.p x.2.o x.2.h x.2.a x.2.e ∧ KeepsOthers W wr ∧ Ko u21.heap.size W wr)) (fun wr => L.length - cnat wr u21.heap.size)
        case atStart => exact ⟨t0, htl0, HST⟩
        case round =>
          obtain ⟨t, ht, hh⟩ := hrel
          clear HST htl0
          obtain ⟨hbel, hc, hp, hev, hko, hkk⟩ := hh.out
          obtain ⟨bm, om, y, hy, rfl, hbm, g0, g1, g2, g3, g4⟩ := (HKZ.out.below hbel).ev_ ht
          have a0 : ∀ z' : Later wr, z'.val.cell? ⟨u21.heap.size, 0, none⟩ = some (.int .i64 (t : Int)) := fun z' => later_old z' hc.cell
          have a1 : ∀ z' : Later wr, z'.val.cell? ⟨ba, 0, none⟩ = some (.pointer (some ⟨m, 0, none⟩)) := fun z' => later_old z' ((hbel.cell (p := ⟨ba, 0, none⟩) hlz1).trans HL1b.out.cell)
          have a2 : ∀ z' : Later wr, z'.val.cell? ⟨m, 1, none⟩ = some (.slice (some ⟨bm, om, none⟩) L.length cm) := fun z' => later_old z' ((hbel.cell (p := ⟨m, 1, none⟩) hlzm).trans HMZ.out)
          have a3 : ∀ z' : Later wr, z'.val.cell? ⟨bm, om + t * 5, none⟩ = some (.int .i64 y.p) := fun z' => later_old z' g0
          have a4 : ∀ z' : Later wr, z'.val.cell? ⟨ba + 1, 0, none⟩ = some (.int .i64 z) := fun z' => later_old z' ((hbel.cell (p := ⟨ba + 1, 0, none⟩) hlz2).trans HL2b.out.cell)
          have d0 : (t : Int) < (L.length : Int) := by omega
          have d2 : (0 : Int) ≤ (t : Int) := by omega
          by_cases hpz : y.p = z
          · have hxe := sls_here hy (decide_eq_true hpz) (by rw [hp]; exact HM.out)
            subst hxe
            simp only at hev
            have dn : (y.p != z) = false := by simpa using hpz
            have b1 : ∀ z' : Later wr, z'.val.cell? ⟨bm, om + t * 5 + 1, none⟩ = some (.int .i64 y.o) := fun z' => later_old z' g1
            have b2 : ∀ z' : Later wr, z'.val.cell? ⟨bm, om + t * 5 + 2, none⟩ = some (.int .u64 y.h) := fun z' => later_old z' g2
            have b3 : ∀ z' : Later wr, z'.val.cell? ⟨bm, om + t * 5 + 3, none⟩ = some (.int .u64 y.a) := fun z' => later_old z' g3
            have b4 : ∀ z' : Later wr, z'.val.cell? ⟨bm, om + t * 5 + 4, none⟩ = some (.int .i64 y.e) := fun z' => later_old z' g4
            have HSL : Hid (sls (fun x => decide (x.p = z)) 0 (L.take (t + 1)) = pre ++ [(t, y)]) := Lib.hid (by rw [sls_next hy, if_pos (decide_eq_true hpz), hp])
            have HBE := Lib.hid hbel
            have HCE := Lib.hid hc
            have HEV := Lib.hid hev
            have HKO := Lib.hid hko
            have HKK := Lib.hid hkk
            have heq := eq_ev_self y.p y.o y.h y.a y.e
            have d3 : IntKind.i64.wrap ((t : Int) + 1) = ((t + 1 : Nat) : Int) := by rw [IntKind.wrap_i64]; omega
            have d5 : ¬ (L.length : Int) ≤ (t : Int) := by omega
            have d6 : decide ((L.length : Int) ≤ (t : Int)) = false := decide_eq_false d5
            have d7 : ¬ L.length ≤ t := by omega
            have d8 : decide (L.length ≤ t) = false := decide_eq_false d7
            clear hpz hh hbel hc hp hev hko hkk hy hbm g0 g1 g2 g3 g4
            gi_wp2
            refine round_region (by kernel_rfl) (by kernel_rfl) (by kernel_rfl) ?_
            repeat (go_big_quiet_step (fail))
            refine wpQuiet_nil ?_
            rintro w7 ⟨⟨_, hq⟩, rfl⟩
            have HQ7 := Lib.hid hq
            have c0 : ∀ z' : Later w7, z'.val.cell? ⟨u21.heap.size, 0, none⟩ = some (.int .i64 (t : Int)) := fun z' => later_old z' (a0 ⟨w7, hq⟩)
            have c1 : ∀ z' : Later w7, z'.val.cell? ⟨ba, 0, none⟩ = some (.pointer (some ⟨m, 0, none⟩)) := fun z' => later_old z' (a1 ⟨w7, hq⟩)
            have c2' : ∀ z' : Later w7, z'.val.cell? ⟨m, 1, none⟩ = some (.slice (some ⟨bm, om, none⟩) L.length cm) := fun z' => later_old z' (a2 ⟨w7, hq⟩)
            have e0 : ∀ z' : Later w7, z'.val.cell? ⟨bm, om + t * 5, none⟩ = some (.int .i64 y.p) := fun z' => later_old z' (a3 ⟨w7, hq⟩)
            have e1 : ∀ z' : Later w7, z'.val.cell? ⟨bm, om + t * 5 + 1, none⟩ = some (.int .i64 y.o) := fun z' => later_old z' (b1 ⟨w7, hq⟩)
            have e2 : ∀ z' : Later w7, z'.val.cell? ⟨bm, om + t * 5 + 2, none⟩ = some (.int .u64 y.h) := fun z' => later_old z' (b2 ⟨w7, hq⟩)
            have e3 : ∀ z' : Later w7, z'.val.cell? ⟨bm, om + t * 5 + 3, none⟩ = some (.int .u64 y.a) := fun z' => later_old z' (b3 ⟨w7, hq⟩)
            have e4 : ∀ z' : Later w7, z'.val.cell? ⟨bm, om + t * 5 + 4, none⟩ = some (.int .i64 y.e) := fun z' => later_old z' (b4 ⟨w7, hq⟩)
            have hev7 := HEV.out.go hq
            have q0 : ∀ z' : Later w7, z'.val.cell? ⟨b, 0, none⟩ = some (.int .i64 y.p) := fun z' => later_old z' hev7.cells.1
            have q1 : ∀ z' : Later w7, z'.val.cell? ⟨b, 1, none⟩ = some (.int .i64 y.o) := fun z' => later_old z' hev7.cells.2.1
            have q2 : ∀ z' : Later w7, z'.val.cell? ⟨b, 2, none⟩ = some (.int .u64 y.h) := fun z' => later_old z' hev7.cells.2.2.1
            have q3 : ∀ z' : Later w7, z'.val.cell? ⟨b, 3, none⟩ = some (.int .u64 y.a) := fun z' => later_old z' hev7.cells.2.2.2.1
            have q4 : ∀ z' : Later w7, z'.val.cell? ⟨b, 4, none⟩ = some (.int .i64 y.e) := fun z' => later_old z' hev7.cells.2.2.2.2
            clear hq hev7 a0 a1 a2 a3 a4 b1 b2 b3 b4
            gi_wp2
            refine round_region (by kernel_rfl) (by kernel_rfl) (by kernel_rfl) ?_
            repeat (go_big_quiet_step (fail))
            refine wpQuiet_nil ?_
            rintro w8 ⟨⟨_, hq8⟩, rfl⟩
            have hq78 := Below.then HQ7.out hq8 (Nat.le_refl _)
            have hc8 := HCE.out.go hq78
            have i0 := hc8.cell
            have i1 := hc8.fr
            have HI8 : Hid (IQ u21 (fun x => decide (x.p = z)) L (pre ++ [(t, y)]) (w8.setCell ⟨u21.heap.size, 0, none⟩ (.int .i64 ((t + 1 : Nat) : Int)))) := Lib.hid
              ⟨(HBE.out.trans (hq78.mono HBE.out.size)).setCell (p := ⟨u21.heap.size, 0, none⟩) (Nat.le_refl _) _, t + 1, by omega, hc8.set _, HSL.out⟩
            have HKF := Lib.hid ((HKO.out.trans (keepsOthers_below hq78)).trans (KeepsOthers.setCell w8 ⟨u21.heap.size, 0, none⟩ (.int .i64 ((t + 1 : Nat) : Int))))
            have HKG : Hid (Ko u21.heap.size W (w8.setCell ⟨u21.heap.size, 0, none⟩ (.int .i64 ((t + 1 : Nat) : Int)))) := Lib.hid ((HKK.out.t (Ko.below hq78)).t (Ko.set _))
            clear hq8 hq78 hc8 c0 c1 c2' e0 e1 e2 e3 e4 q0 q1 q2 q3 q4 heq dn
            gi_wp2
            exact ⟨HKF.out.from _, HKG.out, HI8.out⟩
          · have dn : (y.p != z) = true := by simpa using hpz
            have hsk := sls_skip hy (s := (fun x => decide (x.p = z))) (decide_eq_false hpz)
            have htn : t + 1 < L.length := by
              rcases Nat.lt_or_ge (t + 1) L.length with h | h
              · exact h
              · exact (sls_full h (by rw [hsk, hp]; exact HM.out)).elim
            have hp2 : sls (fun x => decide (x.p = z)) 0 (L.take (t + 1)) = pre := hsk.trans hp
            have HBE := Lib.hid hbel
            have HCE := Lib.hid hc
            have HEV := Lib.hid hev
            have HKO := Lib.hid hko
            have HKK := Lib.hid hkk
            have HP2 := Lib.hid hp2
            have d3 : IntKind.i64.wrap ((t : Int) + 1) = ((t + 1 : Nat) : Int) := by rw [IntKind.wrap_i64]; omega
            clear hpz hh hbel hc hp hp2 hsk hev hko hkk hy hbm g0 g1 g2 g3 g4
            gi_wp2
            refine round_region (by kernel_rfl) (by kernel_rfl) (by kernel_rfl) ?_
            repeat (go_big_quiet_step (fail))
            refine wpQuiet_nil ?_
            rintro w7 ⟨⟨_, hq⟩, rfl⟩
            have hc7 := HCE.out.go hq
            have i0 := hc7.cell
            have i1 := hc7.fr
            have HF : Hid (Below u21.heap.size u21 (w7.setCell ⟨u21.heap.size, 0, none⟩ (.int .i64 ((t + 1 : Nat) : Int))) ∧ Cel (w7.setCell ⟨u21.heap.size, 0, none⟩ (.int .i64 ((t + 1 : Nat) : Int))) u21.heap.size 3 (.int .i64 ((t + 1 : Nat) : Int)) ∧ sls (fun x => decide (x.p = z)) 0 (L.take (t + 1)) = pre ∧ EvB (w7.setCell ⟨u21.heap.size, 0, none⟩ (.int .i64 ((t + 1 : Nat) : Int))) b x.2.p x.2.o x.2.h x.2.a x.2.e ∧ KeepsOthers W (w7.setCell ⟨u21.heap.size, 0, none⟩ (.int .i64 ((t + 1 : Nat) : Int))) ∧ Ko u21.heap.size W (w7.setCell ⟨u21.heap.size, 0, none⟩ (.int .i64 ((t + 1 : Nat) : Int)))) := Lib.hid
              ⟨(HBE.out.trans (hq.mono HBE.out.size)).setCell (p := ⟨u21.heap.size, 0, none⟩) (Nat.le_refl _) _, hc7.set _, HP2.out, (HEV.out.go hq).apart hne _, (HKO.out.trans (keepsOthers_below hq)).trans (KeepsOthers.setCell w7 ⟨u21.heap.size, 0, none⟩ _), (HKK.out.t (Ko.below hq)).t (Ko.set _)⟩
            have HCN := Lib.hid (cnat_of HCE.out)
            have HCM : Hid (cnat (w7.setCell ⟨u21.heap.size, 0, none⟩ (.int .i64 ((t : Int) + 1))) u21.heap.size = t + 1) := Lib.hid (by
              have h := cnat_of HF.out.2.1
              rw [show ((t + 1 : Nat) : Int) = (t : Int) + 1 by omega] at h
              exact h)
            clear hq hc7 a0 a1 a2 a3 a4 dn
            gi_wp2
            go_roundw
            case rel => exact ⟨t + 1, htn, HF⟩
            case measure => first | (rw [HCN.out, HCM.out]; omega) | (have h1 := HCN.out; have h2 := HCM.out; omega)
      case done =>
        rintro D ys W hD rfl ⟨hbel, t0, ht0, hc0, hp0⟩ hK
        have HST : Hid (Below u21.heap.size u21 W ∧ Cel W u21.heap.size 3 (.int .i64 (t0 : Int)) ∧ sls (fun x => decide (x.p = z)) 0 (L.take t0) = sls (fun x => decide (x.p = z)) 0 L ∧ Df W D) := Lib.hid ⟨hbel, hc0, hp0, hK⟩
        have htl0 := ht0
        clear hbel hc0 hp0 hK ht0
        dsimp only
        go_wp2
        go_loopw [] (fun wr => ∃ t : Nat, t ≤ L.length ∧ Hid (Below u21.heap.size u21 wr ∧ Cel wr u21.heap.size 3 (.int .i64 (t : Int)) ∧ sls (fun x => decide (x.p = z)) 0 (L.take t) = sls (fun x => decide (x.p = z)) 0 L ∧ Df wr D)) (fun wr => L.length - cnat wr u21.heap.size)
        case atStart => exact ⟨t0, htl0, HST⟩
        case round =>
          obtain ⟨t, ht, hh⟩ := hrel
          clear HST htl0
          obtain ⟨hbel, hc, hp, hdf⟩ := hh.out
          have a0 : ∀ z' : Later wr, z'.val.cell? ⟨u21.heap.size, 0, none⟩ = some (.int .i64 (t : Int)) := fun z' => later_old z' hc.cell
          have a1 : ∀ z' : Later wr, z'.val.cell? ⟨ba, 0, none⟩ = some (.pointer (some ⟨m, 0, none⟩)) := fun z' => later_old z' ((hbel.cell (p := ⟨ba, 0, none⟩) hlz1).trans HL1b.out.cell)
          have a4 : ∀ z' : Later wr, z'.val.cell? ⟨ba + 1, 0, none⟩ = some (.int .i64 z) := fun z' => later_old z' ((hbel.cell (p := ⟨ba + 1, 0, none⟩) hlz2).trans HL2b.out.cell)
          have HBE := Lib.hid hbel
          have HCE := Lib.hid hc
          have HDF := Lib.hid hdf
          by_cases hlt : t < L.length
          · obtain ⟨bm, om, y, hy, rfl, hbm, g0, g1, g2, g3, g4⟩ := (HKZ.out.below hbel).ev_ hlt
            have a2 : ∀ z' : Later wr, z'.val.cell? ⟨m, 1, none⟩ = some (.slice (some ⟨bm, om, none⟩) L.length cm) := fun z' => later_old z' ((hbel.cell (p := ⟨m, 1, none⟩) hlzm).trans HMZ.out)
            have a3 : ∀ z' : Later wr, z'.val.cell? ⟨bm, om + t * 5, none⟩ = some (.int .i64 y.p) := fun z' => later_old z' g0
            have d0 : (t : Int) < (L.length : Int) := by omega
            have d2 : (0 : Int) ≤ (t : Int) := by omega
            have hpz : ¬ y.p = z := fun e => by
              have h1 := sls_at hy (s := (fun x => decide (x.p = z))) (decide_eq_true e)
              rw [hp] at h1
              have := (List.getElem?_eq_some_iff.1 h1).1
              omega
            have dn : (y.p == z) = false := by simpa using hpz
            have HP2 : Hid (sls (fun x => decide (x.p = z)) 0 (L.take (t + 1)) = sls (fun x => decide (x.p = z)) 0 L) := Lib.hid ((sls_skip hy (s := (fun x => decide (x.p = z))) (decide_eq_false hpz)).trans hp)
            have d3 : IntKind.i64.wrap ((t : Int) + 1) = ((t + 1 : Nat) : Int) := by rw [IntKind.wrap_i64]; omega
            clear hpz hh hbel hc hp hdf hy hbm g0 g1 g2 g3 g4
            go_wp2
            refine wp_region_later (by kernel_rfl) (by kernel_rfl) ?_
            repeat (go_big_quiet_step (fail))
            refine wpQuiet_nil ?_
            rintro w7 ⟨⟨_, hq⟩, rfl⟩
            have HQ7 := Lib.hid hq
            have c0 : ∀ z' : Later w7, z'.val.cell? ⟨u21.heap.size, 0, none⟩ = some (.int .i64 (t : Int)) := fun z' => later_old z' (a0 ⟨w7, hq⟩)
            have c1 : ∀ z' : Later w7, z'.val.cell? ⟨ba, 0, none⟩ = some (.pointer (some ⟨m, 0, none⟩)) := fun z' => later_old z' (a1 ⟨w7, hq⟩)
            have c2' : ∀ z' : Later w7, z'.val.cell? ⟨m, 1, none⟩ = some (.slice (some ⟨bm, om, none⟩) L.length cm) := fun z' => later_old z' (a2 ⟨w7, hq⟩)
            have c3 : ∀ z' : Later w7, z'.val.cell? ⟨bm, om + t * 5, none⟩ = some (.int .i64 y.p) := fun z' => later_old z' (a3 ⟨w7, hq⟩)
            have c4 : ∀ z' : Later w7, z'.val.cell? ⟨ba + 1, 0, none⟩ = some (.int .i64 z) := fun z' => later_old z' (a4 ⟨w7, hq⟩)
            clear hq a0 a1 a2 a3 a4
            go_wp2
            refine wp_region_later (by kernel_rfl) (by kernel_rfl) ?_
            repeat (go_big_quiet_step (fail))
            refine wpQuiet_nil ?_
            rintro w8 ⟨⟨_, hq8⟩, rfl⟩
            have hq78 := Below.then HQ7.out hq8 (Nat.le_refl _)
            have hc8 := HCE.out.go hq78
            have i0 := hc8.cell
            have i1 := hc8.fr
            have HF : Hid (Below u21.heap.size u21 (w8.setCell ⟨u21.heap.size, 0, none⟩ (.int .i64 ((t + 1 : Nat) : Int))) ∧ Cel (w8.setCell ⟨u21.heap.size, 0, none⟩ (.int .i64 ((t + 1 : Nat) : Int))) u21.heap.size 3 (.int .i64 ((t + 1 : Nat) : Int)) ∧ sls (fun x => decide (x.p = z)) 0 (L.take (t + 1)) = sls (fun x => decide (x.p = z)) 0 L ∧ Df (w8.setCell ⟨u21.heap.size, 0, none⟩ (.int .i64 ((t + 1 : Nat) : Int))) D) := Lib.hid
              ⟨(HBE.out.trans (hq78.mono HBE.out.size)).setCell (p := ⟨u21.heap.size, 0, none⟩) (Nat.le_refl _) _, hc8.set _, HP2.out, (HDF.out.go hq78).set _ _⟩
            have HCN := Lib.hid (cnat_of HCE.out)
            have HCM : Hid (cnat (w8.setCell ⟨u21.heap.size, 0, none⟩ (.int .i64 ((t : Int) + 1))) u21.heap.size = t + 1) := Lib.hid (by
              have h := cnat_of HF.out.2.1
              rw [show ((t + 1 : Nat) : Int) = (t : Int) + 1 by omega] at h
              exact h)
            clear hq8 hq78 hc8 c0 c1 c2' c3 c4 dn
            go_wp2
            go_roundw
            case rel => exact ⟨t + 1, by omega, HF⟩
            case measure => first | (rw [HCN.out, HCM.out]; omega) | (have h1 := HCN.out; have h2 := HCM.out; omega)
          · obtain rfl : t = L.length := by omega
            have a2 : ∀ z' : Later wr, z'.val.cell? ⟨m, 1, none⟩ = some (.slice Am L.length cm) := fun z' => later_old z' ((hbel.cell (p := ⟨m, 1, none⟩) hlzm).trans HMZ.out)
            have d0 : ¬ (L.length : Int) < (L.length : Int) := by omega
            have CR0 := Lib.hid (HL3b.out.below hbel hlz3)
            clear hh hbel hc hp hdf hlt
            go_wp2
            refine wp_region_later (by kernel_rfl) (by kernel_rfl) ?_
            repeat (go_big_quiet_step (fail))
            refine wpQuiet_nil ?_
            rintro w7 ⟨⟨_, hq⟩, rfl⟩
            have HK7 := Lib.hid (HDF.out.go hq)
            have CR7 := Lib.hid (CR0.out.go hq)
            have HB7 : Hid (Below w.heap.size w w7) := Lib.hid (HBZ.out.trans ((HBE.out.trans (hq.mono HBE.out.size)).mono HBZ.out.size))
            have e2 := CR7.out.cell
            have f2 := CR7.out.fr
            have HD8 := Lib.hid (HK7.out.set ⟨ba + 1 + 1, 0, none⟩ (.bool true))
            have HB8' := Lib.hid (HB7.out.setCell (p := ⟨ba + 1 + 1, 0, none⟩) (by simp only; omega) (.bool true))
            have D2 := Lib.hid (((CR7.out.set (.bool true)).put HD8.out (.deferred none)).cell)
            have HSZ : Hid (w.heap.size ≤ D) := Lib.hid (by have := HBZ.out.size; omega)
            clear hq a0 a1 a2 a4
            go_wp2
            have d2 := D2.out
            refine leave_one HD8.out ?_
            refine ⟨.bool true, ?_, rfl, HD8.out.below HSZ.out HB8'.out (.deferred none)⟩
            simp [results, Try.f18, go_sem, d2]
    · refine held_make (w' := u21) (d := 84) rfl rfl (by rfl) (v := .string S) (by have q := HT21.out; go_simp) ⟨HD21.out, ?_⟩
      simp only [Act.put, List.setIfInBounds_toArray, List.set_cons_zero, List.set_cons_succ]
      refine held_one (i := 61) (by kernel_rfl) ?_
      refine held_make (w' := u21) (d := 78) rfl rfl (by rfl) (v := .string S) (by have q := hcv0; go_simp) ⟨HD21.out, ?_⟩
      simp only [Act.put, List.setIfInBounds_toArray, List.set_cons_zero, List.set_cons_succ]
      refine held_take (i := 68) (d := 85) (v := .bool false) rfl rfl (by kernel_rfl) (by kernel_rfl) (by kernel_rfl) (fun _ _ _ h => h) (by rfl) (fun W _ => by go_simp) hHeld ?_
      simp only [Act.put, List.setIfInBounds_toArray, List.set_cons_zero, List.set_cons_succ]
      refine held_take (i := 69) (d := 86) (v := .bool false) rfl rfl (by kernel_rfl) (by kernel_rfl) (by kernel_rfl) (fun _ _ _ h => h) (by rfl) (fun W _ => by go_simp) hHeld ?_
      simp only [Act.put, List.setIfInBounds_toArray, List.set_cons_zero, List.set_cons_succ]
      refine wpAnyH_done (by kernel_rfl) ?_ _
      clear hHeld
      have HDZ := HD21
      have HBZ := HB21x
      clear HT20 HT21 HSE HD10 HB10x HD11 HB11x HD12 HB12x HD13 HB13x HD14 HB14x HD15 HB15x HD16 HB16x HD17 HB17x HD18 HB18x HD19 HB19x HD20 HB20x HD21 HB21x
      have HL1b := Lib.hid (HL1.out.go HDZ.out)
      have HL2b := Lib.hid (HL2.out.go HDZ.out)
      have HL3b := Lib.hid (HL3.out.go HDZ.out)
      have HQY := Lib.hid (queryW_any P z (u21.alloc (.cells #[.int .i64 0] 3)))
      rw [show (u21.alloc (.cells #[.int .i64 0] 3)).heap.size = u21.heap.size + 1 by simp] at HQY
      have HRZ := Lib.hid (HQ.out u21 HBZ.out)
      have HKZ := Lib.hid (HKM.out u21 HBZ.out)
      have HMZ := Lib.hid (HMB.out u21 HBZ.out)
      have hlz1 := HL1b.out.lt
      have hlz2 := HL2b.out.lt
      have hlz3 := HL3b.out.lt
      have hlzm := lt_of_some HMZ.out
      have l2 := ((HL2b.out.go ((Below.refl u21.heap.size u21).alloc (Nat.le_refl _) (.cells #[.int .i64 0] 3)))).cell
      clear HD0 HB0 HLD HL1 HL2 HL3 HX2 HB2 HQ HLE HRO HRM HRE HRR HMI HMR HDG HBY HKM HKB HMB HDO HBO HSS HBA hlm HDZ
      go_wp2_with fail
      have HKC : Hid (Cel (u21.alloc (.cells #[.int .i64 0] 3)) u21.heap.size 3 (.int .i64 0)) := Lib.hid Cel.new
      refine HQY.out.mono ?_
      rintro e w6 ⟨rfl, hw6⟩
      have hs4 : ((u21.alloc (.cells #[.int .i64 0] 3)).alloc (.cells #[.int .i64 z] 3)).heap.size = u21.heap.size + 1 + 1 := by simp
      have hs5 : (((u21.alloc (.cells #[.int .i64 0] 3)).alloc (.cells #[.int .i64 z] 3)).alloc (.cells #[.pointer P] 31)).heap.size = u21.heap.size + 1 + 2 := by simp
      have hz6 : w6.heap.size = u21.heap.size + 4 := by rw [hw6]; simp
      have HBW : Hid (Below u21.heap.size u21 w6) := Lib.hid (by
        rw [hw6]
        exact ((((Below.refl _ _).alloc (Nat.le_refl _) _).alloc (by simp) _).alloc (by simp; omega) _).alloc (by simp; omega) _)
      have HC0 : Hid (Cel w6 u21.heap.size 3 (.int .i64 0)) := Lib.hid (by
        rw [hw6]
        exact ((HKC.out.go ((Below.refl _ _).alloc (Nat.le_refl _) _)).go ((Below.refl _ _).alloc (Nat.le_refl _) _)).go ((Below.refl _ _).alloc (Nat.le_refl _) _))
      have HC3 : Hid (Cel w6 (u21.heap.size + 1) 3 (.int .i64 z)) := Lib.hid (by
        rw [hw6]
        have h1 := ((Cel.new (w := u21.alloc (.cells #[.int .i64 0] 3)) (t := 3) (v := .int .i64 z)).go ((Below.refl _ _).alloc (Nat.le_refl _) (.cells #[.pointer P] 31))).go ((Below.refl _ _).alloc (Nat.le_refl _) (.cells #[.func (.func 69) #[] #[.pointer (some ⟨u21.heap.size + 1, 0, none⟩)]] 86))
        rw [show (u21.alloc (.cells #[.int .i64 0] 3)).heap.size = u21.heap.size + 1 by simp] at h1
        exact h1)
      have HC1 : Hid (Cel w6 (u21.heap.size + 1 + 1) 31 (.pointer P)) := Lib.hid (by
        rw [hw6, ← hs4]
        exact Cel.new.go ((Below.refl _ _).alloc (Nat.le_refl _) _))
      have HC2 : Hid (Cel w6 (u21.heap.size + 1 + 2) 86 (.func (.func 69) #[] #[.pointer (some ⟨u21.heap.size + 1, 0, none⟩)])) := Lib.hid (by
        rw [hw6, ← hs5]
        exact Cel.new)
      have HI0 : Hid (IQ u21 (fun x => decide (x.p = z)) L [] w6) := Lib.hid ⟨HBW.out, 0, Nat.zero_le _, HC0.out, rfl⟩
      clear hw6 hs4 hs5 HQY HKC HC0 l2
      go_wp2
      refine (wpIn_wide (n := 6)).1 ?_
      refine' range_told_box (Kp := Ko u21.heap.size) rfl (by omega) (gf := 80) (lb := #[.pointer (some ⟨u21.heap.size + 1 + 1, 0, none⟩), .pointer (some ⟨u21.heap.size + 1 + 2, 0, none⟩)]) rfl trivial (enters_of Try.func80 (by kernel_rfl) rfl)
        (encs := fun x : Nat × Ev5 => #[.int .i64 (x.1 : Int), .agg #[.int .i64 x.2.p, .int .i64 x.2.o, .int .u64 x.2.h, .int .u64 x.2.a, .int .i64 x.2.e]]) (fun _ => rfl) (fun pre x _ => (sls (fun x => decide (x.p = z)) 0 L)[pre.length]? = some x) (fun h k => h.t k) (fun W l o o' _ h hc _ => Ko.b W l o o' h hc) (S := fun xs => xs = sls (fun x => decide (x.p = z)) 0 L) ?seq
        (IQ u21 (fun x => decide (x.p = z)) L) (iq_own (by omega)) HI0.out _ (fun pre x b W => IQ u21 (fun x => decide (x.p = z)) L pre W ∧ (sls (fun x => decide (x.p = z)) 0 L)[pre.length]? = some x ∧ EvB W b x.2.p x.2.o x.2.h x.2.a x.2.e) ?rr ?assign ?body ?done
      case seq =>
        intro l J W hW hJ hY h0
        refine run_qry17 5 l (u21.heap.size + 1 + 1) (u21.heap.size + 1 + 2) (u21.heap.size + 1) z HRZ.out (HBW.out.trans (hW.mono (by omega))) (by omega) (by omega) J (Ko u21.heap.size) (fun _ => True) ?_ trivial (fun _ _ _ _ => trivial) hJ hY (HC1.out.go hW) (HC2.out.go hW) (HC3.out.go hW) h0
        exact fun A B hk _ => ⟨fun g cs t fr hg hc => hk.2 g cs t fr (by omega) hc, trivial⟩
      case rr =>
        rintro pre x b s A B row ⟨h1, h2, h3⟩ hg hrow
        exact ⟨iq_own (by omega) _ _ _ row h1 hg hrow, h2, h3.grown hg (fun r e => (hrow r e).2)⟩
      case assign =>
        intro l pre x W hi hm
        obtain ⟨b, hb⟩ : ∃ b, W.heap.size = b := ⟨_, rfl⟩
        have hbe : Below W.heap.size W (W.alloc (.cells #[.int .i64 x.2.p, .int .i64 x.2.o, .int .u64 x.2.h, .int .u64 x.2.a, .int .i64 x.2.e] 27)) := (Below.refl _ _).alloc (Nat.le_refl _) _
        have HFA : Hid (IQ u21 (fun x => decide (x.p = z)) L pre (W.alloc (.cells #[.int .i64 x.2.p, .int .i64 x.2.o, .int .u64 x.2.h, .int .u64 x.2.a, .int .i64 x.2.e] 27)) ∧ (sls (fun x => decide (x.p = z)) 0 L)[pre.length]? = some x ∧ EvB (W.alloc (.cells #[.int .i64 x.2.p, .int .i64 x.2.o, .int .u64 x.2.h, .int .u64 x.2.a, .int .i64 x.2.e] 27)) b x.2.p x.2.o x.2.h x.2.a x.2.e) :=
          Lib.hid ⟨iq_own (N := u21.heap.size) (Nat.le_refl _) _ _ _ none hi (World.grownBy_alloc W _ none) (fun r e => by cases e), hm, by rw [← hb]; exact EvB.new⟩
        clear hi hm
        gi_wp2
        refine ⟨(KeepsOthers.alloc _ _).from _, Ko.below hbe, b, ?_, HFA.out⟩
        clear HFA hbe hb
        clear W
        exact rfl
      case body =>
        rintro l pre x b W ⟨⟨hbel, t0, ht0, hc0, hp0⟩, hm, hev⟩
        have hne : b ≠ u21.heap.size := fun e => by
          unfold Cel at hc0
          unfold EvB at hev
          rw [e, hc0] at hev
          injection hev with h2
          injection h2 with h3 h4
          exact absurd h4 (by decide)
        have ht0' : t0 < L.length := by
          rcases Nat.lt_or_ge t0 L.length with h | h
          · exact h
          · exact (sls_full h (by rw [hp0]; exact hm)).elim
        have HM := Lib.hid hm
        have HP : Hid (pre.length ≤ L.length) := Lib.hid (by
          rw [← hp0]
          have : ∀ (s : Ev5 → Bool) (l : List Ev5) (i : Nat), (sls s i l).length ≤ l.length := fun s l => by
            induction l with
            | nil => intro i; simp [sls]
            | cons y l ih =>
              intro i
              simp only [sls]
              split
              · simp only [List.length_cons]
                have := ih (i + 1)
                omega
              · simp only [List.length_cons]
                have := ih (i + 1)
                omega
          have h1 := this (fun x => decide (x.p = z)) (L.take t0) 0
          rw [List.length_take] at h1
          omega)
        have HST : Hid (Below u21.heap.size u21 W ∧ Cel W u21.heap.size 3 (.int .i64 (t0 : Int)) ∧ sls (fun x => decide (x.p = z)) 0 (L.take t0) = pre ∧ EvB W b x.2.p x.2.o x.2.h x.2.a x.2.e ∧ KeepsOthers W W ∧ Ko u21.heap.size W W) := Lib.hid ⟨hbel, hc0, hp0, hev, KeepsOthers.refl _, Ko.refl⟩
        have htl0 := ht0'
        clear hbel hc0 hp0 hm hev ht0 ht0'
        gi_wp2
        gi_loopw [] (fun wr => ∃ t : Nat, t < L.length ∧ Hid (Below u21.heap.size u21 wr ∧ Cel wr u21.heap.size 3 (.int .i64 (t : Int)) ∧ sls (fun x => decide (x.p = z)) 0 (L.take t) = pre ∧ EvB wr b x.2.p x.2.o x.2.h x.2.a x.2.e ∧ KeepsOthers W wr ∧ Ko u21.heap.size W wr)) (fun wr => L.length - cnat wr u21.heap.size)
        case atStart => exact ⟨t0, htl0, HST⟩
        case round =>
          obtain ⟨t, ht, hh⟩ := hrel
          clear HST htl0
          obtain ⟨hbel, hc, hp, hev, hko, hkk⟩ := hh.out
          obtain ⟨bm, om, y, hy, rfl, hbm, g0, g1, g2, g3, g4⟩ := (HKZ.out.below hbel).ev_ ht
          have a0 : ∀ z' : Later wr, z'.val.cell? ⟨u21.heap.size, 0, none⟩ = some (.int .i64 (t : Int)) := fun z' => later_old z' hc.cell
          have a1 : ∀ z' : Later wr, z'.val.cell? ⟨ba, 0, none⟩ = some (.pointer (some ⟨m, 0, none⟩)) := fun z' => later_old z' ((hbel.cell (p := ⟨ba, 0, none⟩) hlz1).trans HL1b.out.cell)
          have a2 : ∀ z' : Later wr, z'.val.cell? ⟨m, 1, none⟩ = some (.slice (some ⟨bm, om, none⟩) L.length cm) := fun z' => later_old z' ((hbel.cell (p := ⟨m, 1, none⟩) hlzm).trans HMZ.out)
          have a3 : ∀ z' : Later wr, z'.val.cell? ⟨bm, om + t * 5, none⟩ = some (.int .i64 y.p) := fun z' => later_old z' g0
          have a4 : ∀ z' : Later wr, z'.val.cell? ⟨ba + 1, 0, none⟩ = some (.int .i64 z) := fun z' => later_old z' ((hbel.cell (p := ⟨ba + 1, 0, none⟩) hlz2).trans HL2b.out.cell)
          have d0 : (t : Int) < (L.length : Int) := by omega
          have d2 : (0 : Int) ≤ (t : Int) := by omega
          by_cases hpz : y.p = z
          · have hxe := sls_here hy (decide_eq_true hpz) (by rw [hp]; exact HM.out)
            subst hxe
            simp only at hev
            have dn : (y.p != z) = false := by simpa using hpz
            have b1 : ∀ z' : Later wr, z'.val.cell? ⟨bm, om + t * 5 + 1, none⟩ = some (.int .i64 y.o) := fun z' => later_old z' g1
            have b2 : ∀ z' : Later wr, z'.val.cell? ⟨bm, om + t * 5 + 2, none⟩ = some (.int .u64 y.h) := fun z' => later_old z' g2
            have b3 : ∀ z' : Later wr, z'.val.cell? ⟨bm, om + t * 5 + 3, none⟩ = some (.int .u64 y.a) := fun z' => later_old z' g3
            have b4 : ∀ z' : Later wr, z'.val.cell? ⟨bm, om + t * 5 + 4, none⟩ = some (.int .i64 y.e) := fun z' => later_old z' g4
            have HSL : Hid (sls (fun x => decide (x.p = z)) 0 (L.take (t + 1)) = pre ++ [(t, y)]) := Lib.hid (by rw [sls_next hy, if_pos (decide_eq_true hpz), hp])
            have HBE := Lib.hid hbel
            have HCE := Lib.hid hc
            have HEV := Lib.hid hev
            have HKO := Lib.hid hko
            have HKK := Lib.hid hkk
            have heq := eq_ev_self y.p y.o y.h y.a y.e
            have d3 : IntKind.i64.wrap ((t : Int) + 1) = ((t + 1 : Nat) : Int) := by rw [IntKind.wrap_i64]; omega
            have d5 : ¬ (L.length : Int) ≤ (t : Int) := by omega
            have d6 : decide ((L.length : Int) ≤ (t : Int)) = false := decide_eq_false d5
            have d7 : ¬ L.length ≤ t := by omega
            have d8 : decide (L.length ≤ t) = false := decide_eq_false d7
            clear hpz hh hbel hc hp hev hko hkk hy hbm g0 g1 g2 g3 g4
            gi_wp2
            refine round_region (by kernel_rfl) (by kernel_rfl) (by kernel_rfl) ?_
            repeat (go_big_quiet_step (fail))
            refine wpQuiet_nil ?_
            rintro w7 ⟨⟨_, hq⟩, rfl⟩
            have HQ7 := Lib.hid hq
            have c0 : ∀ z' : Later w7, z'.val.cell? ⟨u21.heap.size, 0, none⟩ = some (.int .i64 (t : Int)) := fun z' => later_old z' (a0 ⟨w7, hq⟩)
            have c1 : ∀ z' : Later w7, z'.val.cell? ⟨ba, 0, none⟩ = some (.pointer (some ⟨m, 0, none⟩)) := fun z' => later_old z' (a1 ⟨w7, hq⟩)
            have c2' : ∀ z' : Later w7, z'.val.cell? ⟨m, 1, none⟩ = some (.slice (some ⟨bm, om, none⟩) L.length cm) := fun z' => later_old z' (a2 ⟨w7, hq⟩)
            have e0 : ∀ z' : Later w7, z'.val.cell? ⟨bm, om + t * 5, none⟩ = some (.int .i64 y.p) := fun z' => later_old z' (a3 ⟨w7, hq⟩)
            have e1 : ∀ z' : Later w7, z'.val.cell? ⟨bm, om + t * 5 + 1, none⟩ = some (.int .i64 y.o) := fun z' => later_old z' (b1 ⟨w7, hq⟩)
            have e2 : ∀ z' : Later w7, z'.val.cell? ⟨bm, om + t * 5 + 2, none⟩ = some (.int .u64 y.h) := fun z' => later_old z' (b2 ⟨w7, hq⟩)
            have e3 : ∀ z' : Later w7, z'.val.cell? ⟨bm, om + t * 5 + 3, none⟩ = some (.int .u64 y.a) := fun z' => later_old z' (b3 ⟨w7, hq⟩)
            have e4 : ∀ z' : Later w7, z'.val.cell? ⟨bm, om + t * 5 + 4, none⟩ = some (.int .i64 y.e) := fun z' => later_old z' (b4 ⟨w7, hq⟩)
            have hev7 := HEV.out.go hq
            have q0 : ∀ z' : Later w7, z'.val.cell? ⟨b, 0, none⟩ = some (.int .i64 y.p) := fun z' => later_old z' hev7.cells.1
            have q1 : ∀ z' : Later w7, z'.val.cell? ⟨b, 1, none⟩ = some (.int .i64 y.o) := fun z' => later_old z' hev7.cells.2.1
            have q2 : ∀ z' : Later w7, z'.val.cell? ⟨b, 2, none⟩ = some (.int .u64 y.h) := fun z' => later_old z' hev7.cells.2.2.1
            have q3 : ∀ z' : Later w7, z'.val.cell? ⟨b, 3, none⟩ = some (.int .u64 y.a) := fun z' => later_old z' hev7.cells.2.2.2.1
            have q4 : ∀ z' : Later w7, z'.val.cell? ⟨b, 4, none⟩ = some (.int .i64 y.e) := fun z' => later_old z' hev7.cells.2.2.2.2
            clear hq hev7 a0 a1 a2 a3 a4 b1 b2 b3 b4
            gi_wp2
            refine round_region (by kernel_rfl) (by kernel_rfl) (by kernel_rfl) ?_
            repeat (go_big_quiet_step (fail))
            refine wpQuiet_nil ?_
            rintro w8 ⟨⟨_, hq8⟩, rfl⟩
            have hq78 := Below.then HQ7.out hq8 (Nat.le_refl _)
            have hc8 := HCE.out.go hq78
            have i0 := hc8.cell
            have i1 := hc8.fr
            have HI8 : Hid (IQ u21 (fun x => decide (x.p = z)) L (pre ++ [(t, y)]) (w8.setCell ⟨u21.heap.size, 0, none⟩ (.int .i64 ((t + 1 : Nat) : Int)))) := Lib.hid
              ⟨(HBE.out.trans (hq78.mono HBE.out.size)).setCell (p := ⟨u21.heap.size, 0, none⟩) (Nat.le_refl _) _, t + 1, by omega, hc8.set _, HSL.out⟩
            have HKF := Lib.hid ((HKO.out.trans (keepsOthers_below hq78)).trans (KeepsOthers.setCell w8 ⟨u21.heap.size, 0, none⟩ (.int .i64 ((t + 1 : Nat) : Int))))
            have HKG : Hid (Ko u21.heap.size W (w8.setCell ⟨u21.heap.size, 0, none⟩ (.int .i64 ((t + 1 : Nat) : Int)))) := Lib.hid ((HKK.out.t (Ko.below hq78)).t (Ko.set _))
            clear hq8 hq78 hc8 c0 c1 c2' e0 e1 e2 e3 e4 q0 q1 q2 q3 q4 heq dn
            gi_wp2
            exact ⟨HKF.out.from _, HKG.out, HI8.out⟩
          · have dn : (y.p != z) = true := by simpa using hpz
            have hsk := sls_skip hy (s := (fun x => decide (x.p = z))) (decide_eq_false hpz)
            have htn : t + 1 < L.length := by
              rcases Nat.lt_or_ge (t + 1) L.length with h | h
              · exact h
              · exact (sls_full h (by rw [hsk, hp]; exact HM.out)).elim
            have hp2 : sls (fun x => decide (x.p = z)) 0 (L.take (t + 1)) = pre := hsk.trans hp
            have HBE := Lib.hid hbel
            have HCE := Lib.hid hc
            have HEV := Lib.hid hev
            have HKO := Lib.hid hko
            have HKK := Lib.hid hkk
            have HP2 := Lib.hid hp2
            have d3 : IntKind.i64.wrap ((t : Int) + 1) = ((t + 1 : Nat) : Int) := by rw [IntKind.wrap_i64]; omega
            clear hpz hh hbel hc hp hp2 hsk hev hko hkk hy hbm g0 g1 g2 g3 g4
            gi_wp2
            refine round_region (by kernel_rfl) (by kernel_rfl) (by kernel_rfl) ?_
            repeat (go_big_quiet_step (fail))
            refine wpQuiet_nil ?_
            rintro w7 ⟨⟨_, hq⟩, rfl⟩
            have hc7 := HCE.out.go hq
            have i0 := hc7.cell
            have i1 := hc7.fr
            have HF : Hid (Below u21.heap.size u21 (w7.setCell ⟨u21.heap.size, 0, none⟩ (.int .i64 ((t + 1 : Nat) : Int))) ∧ Cel (w7.setCell ⟨u21.heap.size, 0, none⟩ (.int .i64 ((t + 1 : Nat) : Int))) u21.heap.size 3 (.int .i64 ((t + 1 : Nat) : Int)) ∧ sls (fun x => decide (x.p = z)) 0 (L.take (t + 1)) = pre ∧ EvB (w7.setCell ⟨u21.heap.size, 0, none⟩ (.int .i64 ((t + 1 : Nat) : Int))) b x.2.p x.2.o x.2.h x.2.a x.2.e ∧ KeepsOthers W (w7.setCell ⟨u21.heap.size, 0, none⟩ (.int .i64 ((t + 1 : Nat) : Int))) ∧ Ko u21.heap.size W (w7.setCell ⟨u21.heap.size, 0, none⟩ (.int .i64 ((t + 1 : Nat) : Int)))) := Lib.hid
              ⟨(HBE.out.trans (hq.mono HBE.out.size)).setCell (p := ⟨u21.heap.size, 0, none⟩) (Nat.le_refl _) _, hc7.set _, HP2.out, (HEV.out.go hq).apart hne _, (HKO.out.trans (keepsOthers_below hq)).trans (KeepsOthers.setCell w7 ⟨u21.heap.size, 0, none⟩ _), (HKK.out.t (Ko.below hq)).t (Ko.set _)⟩
            have HCN := Lib.hid (cnat_of HCE.out)
            have HCM : Hid (cnat (w7.setCell ⟨u21.heap.size, 0, none⟩ (.int .i64 ((t : Int) + 1))) u21.heap.size = t + 1) := Lib.hid (by
              have h := cnat_of HF.out.2.1
              rw [show ((t + 1 : Nat) : Int) = (t : Int) + 1 by omega] at h
              exact h)
            clear hq hc7 a0 a1 a2 a3 a4 dn
            gi_wp2
            go_roundw
            case rel => exact ⟨t + 1, htn, HF⟩
            case measure => first | (rw [HCN.out, HCM.out]; omega) | (have h1 := HCN.out; have h2 := HCM.out; omega)
      case done =>
        rintro D ys W hD rfl ⟨hbel, t0, ht0, hc0, hp0⟩ hK
        have HST : Hid (Below u21.heap.size u21 W ∧ Cel W u21.heap.size 3 (.int .i64 (t0 : Int)) ∧ sls (fun x => decide (x.p = z)) 0 (L.take t0) = sls (fun x => decide (x.p = z)) 0 L ∧ Df W D) := Lib.hid ⟨hbel, hc0, hp0, hK⟩
        have htl0 := ht0
        clear hbel hc0 hp0 hK ht0
        dsimp only
        go_wp2
        go_loopw [] (fun wr => ∃ t : Nat, t ≤ L.length ∧ Hid (Below u21.heap.size u21 wr ∧ Cel wr u21.heap.size 3 (.int .i64 (t : Int)) ∧ sls (fun x => decide (x.p = z)) 0 (L.take t) = sls (fun x => decide (x.p = z)) 0 L ∧ Df wr D)) (fun wr => L.length - cnat wr u21.heap.size)
        case atStart => exact ⟨t0, htl0, HST⟩
        case round =>
          obtain ⟨t, ht, hh⟩ := hrel
          clear HST htl0
          obtain ⟨hbel, hc, hp, hdf⟩ := hh.out
          have a0 : ∀ z' : Later wr, z'.val.cell? ⟨u21.heap.size, 0, none⟩ = some (.int .i64 (t : Int)) := fun z' => later_old z' hc.cell
          have a1 : ∀ z' : Later wr, z'.val.cell? ⟨ba, 0, none⟩ = some (.pointer (some ⟨m, 0, none⟩)) := fun z' => later_old z' ((hbel.cell (p := ⟨ba, 0, none⟩) hlz1).trans HL1b.out.cell)
          have a4 : ∀ z' : Later wr, z'.val.cell? ⟨ba + 1, 0, none⟩ = some (.int .i64 z) := fun z' => later_old z' ((hbel.cell (p := ⟨ba + 1, 0, none⟩) hlz2).trans HL2b.out.cell)
          have HBE := Lib.hid hbel
          have HCE := Lib.hid hc
          have HDF := Lib.hid hdf
          by_cases hlt : t < L.length
          · obtain ⟨bm, om, y, hy, rfl, hbm, g0, g1, g2, g3, g4⟩ := (HKZ.out.below hbel).ev_ hlt
            have a2 : ∀ z' : Later wr, z'.val.cell? ⟨m, 1, none⟩ = some (.slice (some ⟨bm, om, none⟩) L.length cm) := fun z' => later_old z' ((hbel.cell (p := ⟨m, 1, none⟩) hlzm).trans HMZ.out)
            have a3 : ∀ z' : Later wr, z'.val.cell? ⟨bm, om + t * 5, none⟩ = some (.int .i64 y.p) := fun z' => later_old z' g0
            have d0 : (t : Int) < (L.length : Int) := by omega
            have d2 : (0 : Int) ≤ (t : Int) := by omega
            have hpz : ¬ y.p = z := fun e => by
              have h1 := sls_at hy (s := (fun x => decide (x.p = z))) (decide_eq_true e)
              rw [hp] at h1
              have := (List.getElem?_eq_some_iff.1 h1).1
              omega
            have dn : (y.p == z) = false := by simpa using hpz
            have HP2 : Hid (sls (fun x => decide (x.p = z)) 0 (L.take (t + 1)) = sls (fun x => decide (x.p = z)) 0 L) := Lib.hid ((sls_skip hy (s := (fun x => decide (x.p = z))) (decide_eq_false hpz)).trans hp)
            have d3 : IntKind.i64.wrap ((t : Int) + 1) = ((t + 1 : Nat) : Int) := by rw [IntKind.wrap_i64]; omega
            clear hpz hh hbel hc hp hdf hy hbm g0 g1 g2 g3 g4
            go_wp2
            refine wp_region_later (by kernel_rfl) (by kernel_rfl) ?_
            repeat (go_big_quiet_step (fail))
            refine wpQuiet_nil ?_
            rintro w7 ⟨⟨_, hq⟩, rfl⟩
            have HQ7 := Lib.hid hq
            have c0 : ∀ z' : Later w7, z'.val.cell? ⟨u21.heap.size, 0, none⟩ = some (.int .i64 (t : Int)) := fun z' => later_old z' (a0 ⟨w7, hq⟩)
            have c1 : ∀ z' : Later w7, z'.val.cell? ⟨ba, 0, none⟩ = some (.pointer (some ⟨m, 0, none⟩)) := fun z' => later_old z' (a1 ⟨w7, hq⟩)
            have c2' : ∀ z' : Later w7, z'.val.cell? ⟨m, 1, none⟩ = some (.slice (some ⟨bm, om, none⟩) L.length cm) := fun z' => later_old z' (a2 ⟨w7, hq⟩)
            have c3 : ∀ z' : Later w7, z'.val.cell? ⟨bm, om + t * 5, none⟩ = some (.int .i64 y.p) := fun z' => later_old z' (a3 ⟨w7, hq⟩)
            have c4 : ∀ z' : Later w7, z'.val.cell? ⟨ba + 1, 0, none⟩ = some (.int .i64 z) := fun z' => later_old z' (a4 ⟨w7, hq⟩)
            clear hq a0 a1 a2 a3 a4
            go_wp2
            refine wp_region_later (by kernel_rfl) (by kernel_rfl) ?_
            repeat (go_big_quiet_step (fail))
            refine wpQuiet_nil ?_
            rintro w8 ⟨⟨_, hq8⟩, rfl⟩
            have hq78 := Below.then HQ7.out hq8 (Nat.le_refl _)
            have hc8 := HCE.out.go hq78
            have i0 := hc8.cell
            have i1 := hc8.fr
            have HF : Hid (Below u21.heap.size u21 (w8.setCell ⟨u21.heap.size, 0, none⟩ (.int .i64 ((t + 1 : Nat) : Int))) ∧ Cel (w8.setCell ⟨u21.heap.size, 0, none⟩ (.int .i64 ((t + 1 : Nat) : Int))) u21.heap.size 3 (.int .i64 ((t + 1 : Nat) : Int)) ∧ sls (fun x => decide (x.p = z)) 0 (L.take (t + 1)) = sls (fun x => decide (x.p = z)) 0 L ∧ Df (w8.setCell ⟨u21.heap.size, 0, none⟩ (.int .i64 ((t + 1 : Nat) : Int))) D) := Lib.hid
              ⟨(HBE.out.trans (hq78.mono HBE.out.size)).setCell (p := ⟨u21.heap.size, 0, none⟩) (Nat.le_refl _) _, hc8.set _, HP2.out, (HDF.out.go hq78).set _ _⟩
            have HCN := Lib.hid (cnat_of HCE.out)
            have HCM : Hid (cnat (w8.setCell ⟨u21.heap.size, 0, none⟩ (.int .i64 ((t : Int) + 1))) u21.heap.size = t + 1) := Lib.hid (by
              have h := cnat_of HF.out.2.1
              rw [show ((t + 1 : Nat) : Int) = (t : Int) + 1 by omega] at h
              exact h)
            clear hq8 hq78 hc8 c0 c1 c2' c3 c4 dn
            go_wp2
            go_roundw
            case rel => exact ⟨t + 1, by omega, HF⟩
            case measure => first | (rw [HCN.out, HCM.out]; omega) | (have h1 := HCN.out; have h2 := HCM.out; omega)
          · obtain rfl : t = L.length := by omega
            have a2 : ∀ z' : Later wr, z'.val.cell? ⟨m, 1, none⟩ = some (.slice Am L.length cm) := fun z' => later_old z' ((hbel.cell (p := ⟨m, 1, none⟩) hlzm).trans HMZ.out)
            have d0 : ¬ (L.length : Int) < (L.length : Int) := by omega
            have CR0 := Lib.hid (HL3b.out.below hbel hlz3)
            clear hh hbel hc hp hdf hlt
            go_wp2
            refine wp_region_later (by kernel_rfl) (by kernel_rfl) ?_
            repeat (go_big_quiet_step (fail))
            refine wpQuiet_nil ?_
            rintro w7 ⟨⟨_, hq⟩, rfl⟩
            have HK7 := Lib.hid (HDF.out.go hq)
            have CR7 := Lib.hid (CR0.out.go hq)
            have HB7 : Hid (Below w.heap.size w w7) := Lib.hid (HBZ.out.trans ((HBE.out.trans (hq.mono HBE.out.size)).mono HBZ.out.size))
            have e2 := CR7.out.cell
            have f2 := CR7.out.fr
            have HD8 := Lib.hid (HK7.out.set ⟨ba + 1 + 1, 0, none⟩ (.bool true))
            have HB8' := Lib.hid (HB7.out.setCell (p := ⟨ba + 1 + 1, 0, none⟩) (by simp only; omega) (.bool true))
            have D2 := Lib.hid (((CR7.out.set (.bool true)).put HD8.out (.deferred none)).cell)
            have HSZ : Hid (w.heap.size ≤ D) := Lib.hid (by have := HBZ.out.size; omega)
            clear hq a0 a1 a2 a4
            go_wp2
            have d2 := D2.out
            refine leave_one HD8.out ?_
            refine ⟨.bool true, ?_, rfl, HD8.out.below HSZ.out HB8'.out (.deferred none)⟩
            simp [results, Try.f18, go_sem, d2]

end Go.Proofs.Ytlgoiccekgjhnaa
