/-
  Contracts of Issue, Drop and Give of the landed table and of the model. Conditions: at most 4096 slots; words are numbers of 64 bits.
-/
import Derived.Test.YtaoojgnkbcoggaaHrn
namespace Go.Proofs.Ytaoojgnkbcoggaa
section
open Go.ChangeShapes Go.WideShapes Go.RowKit
set_option linter.unusedVariables false
set_option linter.unusedSimpArgs false
set_option maxHeartbeats 8000000
set_option maxRecDepth 100000

section
variable {Sl : World → (Nat → Nat) → Nat → Nat → Gs → Prop} {ty : TypeId} {w w1 w2 : World} {c c' d : Nat → Nat} {k j p q i : Nat} {v : Value} {s s' : Gs} {l : List En}
/-- Other colours, so long as what has the table's keeps it. -/
theorem Inn.paint (h : Inn Sl ty w c k p s l) (hc : ∀ g, g < w.heap.size → c g = k → c' g = k) : Inn Sl ty w c' k p s l := by
  obtain ⟨d, q, v, h⟩ := h
  exact ⟨d, q, v, h.hp, h.own, h.sl, hc p h.lt h.cp, h.dp, fun g hg => ⟨hc g (h.own.ge hg).2 (h.cv g hg).1, (h.cv g hg).2⟩, fun g hg => by
    rcases h.cd g hg with e | e
    · exact .inl ⟨e.1, hc g hg e.2⟩
    · exact .inr e⟩
theorem Kept.behind (hb : Below w.heap.size w w1) (hc : ∀ g, g < w.heap.size → c' g = c g) (h : Kept c' k w1 w2) : Kept c k w w2 :=
  ⟨h.os.trans hb.os, h.tape.trans hb.tape, h.output.trans hb.output, Nat.le_trans hb.size h.size, fun g hg hne => (h.block g (Nat.lt_of_lt_of_le hg hb.size) (by rw [hc g hg]; exact hne)).trans (hb.block g hg)⟩
theorem Inn.side (K : KeptLaw Sl) (h : Inn Sl ty w c k p s l) (hb : Below w.heap.size w w1) : Inn Sl ty w1 (rc c w.heap.size (k + 1)) k p s l := h.kept K (j := k + 1) (Kept.ofBelow hb) (by omega) (fun _ hg => rc_old hg)
theorem paint_ok {n n1 : Nat} (hn : n ≤ n1) : ∀ g, rc (rc c n (k + 1)) n1 k g = k → rc c n k g = k := fun g hg => by
  by_cases h1 : g < n
  · rw [rc_old h1]
    rw [rc_old (by omega), rc_old h1] at hg
    exact hg
  · exact rc_new (by omega)
/-- The row of a table beside what lies in it. -/
theorem Inn.opx (h : Inn Sl ty w c k p s l) (hi : i < l.length) : ∃ d q g cap, Inx Sl ty w c d k p q (.slice (some ⟨g, 0, none⟩) l.length cap) s l ∧ w.cell? ⟨p, 1, none⟩ = some (.slice (some ⟨g, 0, none⟩) l.length cap) ∧ l.length ≤ cap ∧ cap ≤ maxLen := h.opn (by omega)
end
/-- A box that holds an extent. -/
def ExB (w : World) (b : Nat) (f l : Int) : Prop := w.heap[b]? = some (.cells #[.int .i64 f, .int .i64 l] 42 (0, 0))
theorem ExB.cells {w : World} {b : Nat} {f l : Int} (H : ExB w b f l) : w.cell? ⟨b, 0, none⟩ = some (.int .i64 f) ∧ w.cell? ⟨b, 1, none⟩ = some (.int .i64 l) := ⟨cell_of_row w b 0 _ _ _ H, cell_of_row w b 1 _ _ _ H⟩
/-- What Issue says and leaves. -/
def IsE (Tb : World → (Nat → Nat) → Nat → Nat → Ht → Prop) (w : World) (c : Nat → Nat) (k p : Nat) (t : Ht) (o g f l d : Int) (e : Ending) (w' : World) : Prop :=
  e = .returned (.tuple #[.int .u64 (t.issH o g d), .int .i64 (t.issE o g)]) ∧ Tb w' (rc c w.heap.size k) k p (t.issN o g f l d) ∧ Kept c k w w'
theorem Ht.iss_bad {t : Ht} {o g : Int} (h : ¬ (okO o ∧ okT g)) (f l d : Int) : t.issE o g = 1 ∧ t.issH o g d = 0 ∧ t.issN o g f l d = t := by
  have h1 : t.issE o g = 1 := if_neg h
  exact ⟨h1, if_neg (by rw [h1]; omega), if_neg (by rw [h1]; omega)⟩
theorem Ht.iss_full {t : Ht} {o g : Int} (h : okO o ∧ okT g) (hf : t.s.free = []) (f l d : Int) : t.issE o g = 17 ∧ t.issH o g d = 0 ∧ t.issN o g f l d = t := by
  have h1 : t.issE o g = 17 := by
    unfold Ht.issE
    rw [if_pos h, if_pos hf]
  exact ⟨h1, if_neg (by rw [h1]; omega), if_neg (by rw [h1]; omega)⟩
theorem Ht.iss_yes {t : Ht} {o g : Int} (h : okO o ∧ okT g) (hf : t.s.free ≠ []) (d : Int) : t.issE o g = 0 ∧ t.issH o g d = word (t.slot d) (t.s.nxt (t.slot d)) g := by
  have h1 : t.issE o g = 0 := by
    unfold Ht.issE
    rw [if_pos h, if_neg hf]
  exact ⟨h1, if_pos h1⟩
theorem issT_any (w : World) (c : Nat → Nat) (k p N : Nat) (t : Ht) (o g f l d : Int) (H : Htb w c k p t) (hW : t.Wf N) (hN : N ≤ 4096) (hd : 0 ≤ d ∧ d < 18446744073709551616) :
    Calls Try.prog 21 #[.pointer (some ⟨p, 0, none⟩), .int .i64 o, .int .i64 g, .agg #[.int .i64 f, .int .i64 l], .int .u64 d] w (IsE Htb w c k p t o g f l d) := by
  have hba : Below w.heap.size w (w.alloc (.cells #[.int .i64 f, .int .i64 l] 42)) := (Below.refl _ _).alloc (Nat.le_refl _) _
  have HB0 := Lib.hid hba
  have HX0 : Hid (ExB (w.alloc (.cells #[.int .i64 f, .int .i64 l] 42)) w.heap.size f l) := Lib.hid (heap_alloc_new w _)
  have HO := Lib.hid (fun W => owner_any o W)
  have HI : Hid (Inn Sls 63 (w.alloc (.cells #[.int .i64 f, .int .i64 l] 42)) (rc c w.heap.size (k + 1)) k p t.s t.pe) := Lib.hid (Inn.side kl_sls H hba)
  have hz0 : (w.alloc (.cells #[.int .i64 f, .int .i64 l] 42)).heap.size = w.heap.size + 1 := by simp
  have HBAD : ¬ (okO o ∧ okT g) → Hid (IsE Htb w c k p t o g f l d (.returned (.tuple #[.int .u64 0, .int .i64 1])) (w.alloc (.cells #[.int .i64 f, .int .i64 l] 42))) := fun h => Lib.hid (by
    obtain ⟨e1, e2, e3⟩ := Ht.iss_bad h f l d
    unfold IsE
    rw [e1, e2, e3]
    exact ⟨rfl, Htb.kept H (j := k + 1) (Kept.ofBelow hba) (by omega) (fun g hg => rc_old hg), Kept.ofBelow hba⟩)
  by_cases ho : okO o
  · rw [decide_eq_true ho] at HO
    by_cases hg1 : g < 1
    · have HBD := HBAD (fun h => by have := h.2; unfold okT at this; omega)
      clear HBAD H hW hba HI HB0 HX0 ho hz0
      go_enter Try.func21, Try.ntmps21
      go_wp2_with fail
      refine (HO.out _).mono ?_
      rintro e w2 ⟨rfl, rfl⟩
      go_wp2
      go_ret2
      exact HBD.out
    · by_cases hg2 : g > 255
      · have HBD := HBAD (fun h => by have := h.2; unfold okT at this; omega)
        clear HBAD H hW hba HI HB0 HX0 ho hz0
        go_enter Try.func21, Try.ntmps21
        go_wp2_with fail
        refine (HO.out _).mono ?_
        rintro e w2 ⟨rfl, rfl⟩
        go_wp2
        go_ret2
        exact HBD.out
      · have hok : okO o ∧ okT g := ⟨ho, by unfold okT; omega⟩
        have HOK := Lib.hid hok
        obtain ⟨q, dd, q0, hS, hin⟩ := Inn.inner kl_sls HI.out
        have HGN := Lib.hid (gens_any _ c k p t.s t.pe q q0)
        have HIS := Lib.hid (pc_landed.issue _ dd 1 q N t.s d hS hW.gs hN hd)
        have HIN := Lib.hid hin
        clear HBAD hba ho hok hS hin q0
        by_cases hf : t.s.free = []
        · rw [Ht.iss_none hf] at HIS
          obtain ⟨e1, e2, e3⟩ := Ht.iss_full HOK.out hf f l d
          unfold IsE
          rw [e1, e2, e3]
          clear e1 e2 e3
          have HSN : Hid (t.s.issN d = t.s) := Lib.hid (if_pos hf)
          have HH : Hid (Htb w c k p t) := Lib.hid H
          clear hW H hf
          go_enter Try.func21, Try.ntmps21
          go_wp2_with fail
          refine (HO.out _).mono ?_
          rintro e w2 ⟨rfl, rfl⟩
          go_wp2_with fail
          refine HGN.out.mono ?_
          rintro e w2 ⟨rfl, rfl⟩
          go_wp2_with fail
          refine HIS.out.mono ?_
          rintro e w2 ⟨rfl, hS2, hK2⟩
          have HF := Lib.hid (HIN.out _ _ hS2 hK2)
          rw [HSN.out] at HF
          clear hS2 hK2
          go_wp2
          go_ret2
          exact ⟨rfl, HF.out.1.paint (fun g _ hg => paint_ok (by simp) g hg), Kept.behind HB0.out (fun g hg => rc_old hg) HF.out.2⟩
        · obtain ⟨j, hj⟩ : ∃ j, t.slot d = j := ⟨_, rfl⟩
          obtain ⟨hv, hx, hjN, hdead, hn1, hn2, _⟩ := hW.sl (d := d) hf
          rw [hj] at hv hjN hdead hn1 hn2
          rw [hv] at HIS
          obtain ⟨e1, e2⟩ := Ht.iss_yes HOK.out hf d
          rw [hj] at e2
          have hpe := Ht.pe_iss (f := f) (l := l) (d := d) hW e1
          have hsn : (t.issN o g f l d).s = t.s.issN d := by rw [Ht.issN_ok e1]
          have hpl : t.pe.length = N := by rw [Ht.pe_len, hW.el]
          have hent : t.ent o g f l d = ⟨word j (t.s.nxt j) g, o, g, f, l⟩ := by unfold Ht.ent; rw [hj]
          rw [hj, hent] at hpe
          have hat : t.pe[j]? = some En.z := by
            rw [Ht.pe_at (by rw [hW.el]; exact hjN), hdead]
            rfl
          unfold IsE
          rw [e1, e2]
          have hTB : ∀ W C, Inn Sls 63 W C k p (t.s.issN d) (t.pe.set j ⟨word j (t.s.nxt j) g, o, g, f, l⟩) → Htb W C k p (t.issN o g f l d) := fun W C h => by
            unfold Htb
            rw [hsn, hpe]
            exact h
          have HTB := Lib.hid hTB
          have HAT := Lib.hid hat
          have HPL := Lib.hid hpl
          have HPK := Lib.hid (fun W => pack_any j (t.s.nxt j) g ⟨by omega, by omega⟩ ⟨hn1, hn2⟩ ⟨by omega, by omega⟩ W)
          clear hW H hf hv hx hdead hn1 hn2 e1 e2 hpe hsn hpl hent hat hTB hj
          generalize t.s.nxt j = gn at *
          generalize hwd : word j gn g = wd at *
          clear hwd
          go_enter Try.func21, Try.ntmps21
          go_wp2_with fail
          generalize w.alloc (.cells #[.int .i64 f, .int .i64 l] 42) = w0 at *
          refine (HO.out _).mono ?_
          rintro e w2 ⟨rfl, rfl⟩
          go_wp2_with fail
          refine HGN.out.mono ?_
          rintro e w2 ⟨rfl, rfl⟩
          go_wp2_with fail
          refine HIS.out.mono ?_
          rintro e w2 ⟨rfl, hS2, hK2⟩
          have HF := Lib.hid (HIN.out _ _ hS2 hK2)
          have HX2 : Hid (ExB w2 w.heap.size f l) := Lib.hid ((HF.out.2.block _ (by omega) (by rw [rc_new (Nat.le_refl _)]; omega)).trans HX0.out)
          clear hS2 hK2 HIS HGN HIN HI HX0
          go_wp2_with fail
          refine (HPK.out _).mono ?_
          rintro e w3 ⟨rfl, rfl⟩
          obtain ⟨d2, q2, b, cap, hIx, p1, hlc, hcm⟩ := HF.out.1.opx (i := j) (by rw [HPL.out]; exact hjN)
          rw [HPL.out] at hIx p1 hlc
          unfold maxLen at hcm
          obtain ⟨x0, x1⟩ := HX2.out.cells
          have HIX := Lib.hid hIx
          have hjN' : (j : Int) < (N : Int) := by omega
          clear hIx
          go_wp2_with fail
          have a1 : ∀ z : Later w2, z.val.cell? ⟨p, 1, none⟩ = some (.slice (some ⟨b, 0, none⟩) N cap) := fun z => later_old z p1
          have a2 : ∀ z : Later w2, z.val.cell? ⟨w.heap.size, 0, none⟩ = some (.int .i64 f) := fun z => later_old z x0
          have a3 : ∀ z : Later w2, z.val.cell? ⟨w.heap.size, 1, none⟩ = some (.int .i64 l) := fun z => later_old z x1
          refine wp_region_later_tail 11 (by kernel_rfl) (by kernel_rfl) ?_
          simp only [List.take_succ_cons, List.take_zero, List.drop_succ_cons, List.drop_zero]
          repeat (go_big_quiet_step (fail))
          refine wpQuiet_nil ?_
          rintro w4 ⟨⟨_, hq⟩, rfl⟩
          have hIx4 := HIX.out.kept kl_sls (j := k + 1) (Kept.ofBelow hq) (by omega) (fun _ _ => rfl)
          have hput := hIx4.put5 kl_sls HAT.out ⟨wd, o, g, f, l⟩ rfl rfl rfl rfl rfl
          simp only at hput
          obtain ⟨⟨s1, t1⟩, ⟨s2, t2⟩, ⟨s3, t3⟩, ⟨s4, t4⟩, ⟨s5, t5⟩, hI5, hK5⟩ := hput
          have HI5 := Lib.hid hI5
          have HK5 := Lib.hid (Kept.behind HB0.out (fun g hg => rc_old hg) ((HF.out.2.trans (Kept.ofBelow hq)).rcT hK5))
          clear a1 a2 a3 hIx4 hI5 hK5 hq HIX
          go_wp2
          go_ret2
          exact ⟨rfl, HTB.out _ _ (Inn.paint ⟨_, _, _, HI5.out⟩ (fun g _ hg => paint_ok (by have := HB0.out.size; omega) g hg)), HK5.out⟩
  · rw [decide_eq_false ho] at HO
    have HBD := HBAD (fun h => ho h.1)
    clear HBAD H hW hba HI HB0 HX0 ho hz0
    go_enter Try.func21, Try.ntmps21
    go_wp2_with fail
    refine (HO.out _).mono ?_
    rintro e w2 ⟨rfl, rfl⟩
    go_wp2
    go_ret2
    exact HBD.out
end
section
open Go.ChangeShapes Go.WideShapes Go.RowKit
set_option linter.unusedVariables false
set_option linter.unusedSimpArgs false
set_option maxHeartbeats 8000000
set_option maxRecDepth 100000

theorem issM13_any (w : World) (c : Nat → Nat) (k p N : Nat) (t : Ht) (o g f l d : Int) (H : Hmb w c k p t) (hW : t.Wf N) (hN : N ≤ 4096) (hd : 0 ≤ d ∧ d < 18446744073709551616) :
    Calls Try.prog 30 #[.pointer (some ⟨p, 0, none⟩), .int .i64 o, .int .i64 g, .agg #[.int .i64 f, .int .i64 l], .int .u64 d] w (IsE Hmb w c k p t o g f l d) := by
  have hba : Below w.heap.size w (w.alloc (.cells #[.int .i64 f, .int .i64 l] 42)) := (Below.refl _ _).alloc (Nat.le_refl _) _
  have HB0 := Lib.hid hba
  have HX0 : Hid (ExB (w.alloc (.cells #[.int .i64 f, .int .i64 l] 42)) w.heap.size f l) := Lib.hid (heap_alloc_new w _)
  have HI : Hid (Inn Mgs 76 (w.alloc (.cells #[.int .i64 f, .int .i64 l] 42)) (rc c w.heap.size (k + 1)) k p t.s t.e) := Lib.hid (Inn.side kl_mgs H hba)
  have hz0 : (w.alloc (.cells #[.int .i64 f, .int .i64 l] 42)).heap.size = w.heap.size + 1 := by simp
  have HBAD : ¬ (okO o ∧ okT g) → Hid (IsE Hmb w c k p t o g f l d (.returned (.tuple #[.int .u64 0, .int .i64 1])) (w.alloc (.cells #[.int .i64 f, .int .i64 l] 42))) := fun h => Lib.hid (by
    obtain ⟨e1, e2, e3⟩ := Ht.iss_bad h f l d
    unfold IsE
    rw [e1, e2, e3]
    exact ⟨rfl, Hmb.kept H (j := k + 1) (Kept.ofBelow hba) (by omega) (fun g hg => rc_old hg), Kept.ofBelow hba⟩)
  by_cases g0 : o < 1
  · have HBD := HBAD (fun h => by have h1 := h.1; have h2 := h.2; unfold okO at h1; unfold okT at h2; omega)
    clear HBAD H hW hba HI HB0 HX0 hz0
    go_enter Try.func30, Try.ntmps30
    go_wp2
    go_ret2
    exact HBD.out
  · by_cases g1 : o > 64
    · have HBD := HBAD (fun h => by have h1 := h.1; have h2 := h.2; unfold okO at h1; unfold okT at h2; omega)
      clear HBAD H hW hba HI HB0 HX0 hz0
      go_enter Try.func30, Try.ntmps30
      go_wp2
      go_ret2
      exact HBD.out
    · by_cases g2 : g < 1
      · have HBD := HBAD (fun h => by have h1 := h.1; have h2 := h.2; unfold okO at h1; unfold okT at h2; omega)
        clear HBAD H hW hba HI HB0 HX0 hz0
        go_enter Try.func30, Try.ntmps30
        go_wp2
        go_ret2
        exact HBD.out
      · by_cases g3 : g > 255
        · have HBD := HBAD (fun h => by have h1 := h.1; have h2 := h.2; unfold okO at h1; unfold okT at h2; omega)
          clear HBAD H hW hba HI HB0 HX0 hz0
          go_enter Try.func30, Try.ntmps30
          go_wp2
          go_ret2
          exact HBD.out
        · have hok : okO o ∧ okT g := ⟨by unfold okO; omega, by unfold okT; omega⟩
          have HOK := Lib.hid hok
          obtain ⟨q, dd, q0, hS, hin⟩ := Inn.inner kl_mgs HI.out
          have HIS := Lib.hid (issM_any _ dd 1 q N t.s d hS hW.gs (by omega) (by have h1 := hW.gs.ct; have h2 := hW.gs.g0; omega) hd)
          have HIN := Lib.hid hin
          unfold IsM at HIS
          clear HBAD hba hok hS hin
          by_cases hf : t.s.free = []
          · rw [Ht.iss_none hf] at HIS
            obtain ⟨e1, e2, e3⟩ := Ht.iss_full HOK.out hf f l d
            unfold IsE
            rw [e1, e2, e3]
            clear e1 e2 e3
            have HSN : Hid (t.s.issN d = t.s) := Lib.hid (if_pos hf)
            have HH : Hid (Hmb w c k p t) := Lib.hid H
            clear hW H hf
            go_enter Try.func30, Try.ntmps30
            go_wp2_with fail
            refine HIS.out.mono ?_
            rintro e w2 ⟨rfl, hS2, hK2⟩
            have HF := Lib.hid (HIN.out _ _ hS2 hK2)
            rw [HSN.out] at HF
            clear hS2 hK2
            go_wp2
            go_ret2
            exact ⟨rfl, HF.out.1.paint (fun g _ hg => paint_ok (by simp) g hg), Kept.behind HB0.out (fun g hg => rc_old hg) HF.out.2⟩
          · obtain ⟨j, hj⟩ : ∃ j, t.slot d = j := ⟨_, rfl⟩
            obtain ⟨hv, hx, hjN, hdead, hn1, hn2, _⟩ := hW.sl (d := d) hf
            rw [hj] at hv hjN hdead hn1 hn2
            rw [hv] at HIS
            obtain ⟨e1, e2⟩ := Ht.iss_yes HOK.out hf d
            rw [hj] at e2
            have hpe : (t.issN o g f l d).e = t.e.set (t.slot d) (t.ent o g f l d) := by rw [Ht.issN_ok e1]
            have hsn : (t.issN o g f l d).s = t.s.issN d := by rw [Ht.issN_ok e1]
            have hpl : t.e.length = N := hW.el
            have hent : t.ent o g f l d = ⟨word j (t.s.nxt j) g, o, g, f, l⟩ := by unfold Ht.ent; rw [hj]
            rw [hj, hent] at hpe
            have hat : t.e[j]? = some (t.en j) := Ht.en_at (by rw [hW.el]; exact hjN)
            unfold IsE
            rw [e1, e2]
            have hTB : ∀ W C, Inn Mgs 76 W C k p (t.s.issN d) (t.e.set j ⟨word j (t.s.nxt j) g, o, g, f, l⟩) → Hmb W C k p (t.issN o g f l d) := fun W C h => by
              unfold Hmb
              rw [hsn, hpe]
              exact h
            have HTB := Lib.hid hTB
            have HAT := Lib.hid hat
            have HPL := Lib.hid hpl
            have HPK := Lib.hid (fun W => packR_any j (t.s.nxt j) g ⟨by omega, by omega⟩ ⟨hn1, hn2⟩ ⟨by omega, by omega⟩ W)
            clear hW H hf hv hx hdead hn1 hn2 e1 e2 hpe hsn hpl hent hat hTB hj
            generalize t.s.nxt j = gn at *
            generalize hwd : word j gn g = wd at *
            clear hwd
            go_enter Try.func30, Try.ntmps30
            go_wp2_with fail
            generalize w.alloc (.cells #[.int .i64 f, .int .i64 l] 42) = w0 at *
            refine HIS.out.mono ?_
            rintro e w2 ⟨rfl, hS2, hK2⟩
            have HF := Lib.hid (HIN.out _ _ hS2 hK2)
            have HX2 : Hid (ExB w2 w.heap.size f l) := Lib.hid ((HF.out.2.block _ (by omega) (by rw [rc_new (Nat.le_refl _)]; omega)).trans HX0.out)
            clear hS2 hK2 HIS HIN q0 HI HX0
            go_wp2_with fail
            refine (HPK.out _).mono ?_
            rintro e w3 ⟨rfl, rfl⟩
            obtain ⟨d2, q2, b, cap, hIx, p1, hlc, hcm⟩ := HF.out.1.opx (i := j) (by rw [HPL.out]; exact hjN)
            rw [HPL.out] at hIx p1 hlc
            unfold maxLen at hcm
            obtain ⟨x0, x1⟩ := HX2.out.cells
            have HIX := Lib.hid hIx
            have hjN' : (j : Int) < (N : Int) := by omega
            clear hIx
            go_wp2_with fail
            have a1 : ∀ z : Later w2, z.val.cell? ⟨p, 1, none⟩ = some (.slice (some ⟨b, 0, none⟩) N cap) := fun z => later_old z p1
            have a2 : ∀ z : Later w2, z.val.cell? ⟨w.heap.size, 0, none⟩ = some (.int .i64 f) := fun z => later_old z x0
            have a3 : ∀ z : Later w2, z.val.cell? ⟨w.heap.size, 1, none⟩ = some (.int .i64 l) := fun z => later_old z x1
            refine wp_region_later_tail 11 (by kernel_rfl) (by kernel_rfl) ?_
            simp only [List.take_succ_cons, List.take_zero, List.drop_succ_cons, List.drop_zero]
            repeat (go_big_quiet_step (fail))
            refine wpQuiet_nil ?_
            rintro w4 ⟨⟨_, hq⟩, rfl⟩
            have hIx4 := HIX.out.kept kl_mgs (j := k + 1) (Kept.ofBelow hq) (by omega) (fun _ _ => rfl)
            have hput := hIx4.put5 kl_mgs HAT.out ⟨wd, o, g, f, l⟩ rfl rfl rfl rfl rfl
            simp only at hput
            obtain ⟨⟨s1, t1⟩, ⟨s2, t2⟩, ⟨s3, t3⟩, ⟨s4, t4⟩, ⟨s5, t5⟩, hI5, hK5⟩ := hput
            have HI5 := Lib.hid hI5
            have HK5 := Lib.hid (Kept.behind HB0.out (fun g hg => rc_old hg) ((HF.out.2.trans (Kept.ofBelow hq)).rcT hK5))
            clear a1 a2 a3 hIx4 hI5 hK5 hq HIX
            go_wp2
            go_ret2
            exact ⟨rfl, HTB.out _ _ (Inn.paint ⟨_, _, _, HI5.out⟩ (fun g _ hg => paint_ok (by have := HB0.out.size; omega) g hg)), HK5.out⟩
end
section
open Go.ChangeShapes Go.WideShapes Go.RowKit
set_option linter.unusedVariables false
set_option linter.unusedSimpArgs false
set_option maxHeartbeats 8000000
set_option maxRecDepth 100000

/-- What Drop and Give say and leave. -/
def DpE (Tb : World → (Nat → Nat) → Nat → Nat → Ht → Prop) (w : World) (c : Nat → Nat) (k p : Nat) (v : Int) (t' : Ht) (e : Ending) (w' : World) : Prop :=
  e = .returned (.int .i64 v) ∧ Tb w' (rc c w.heap.size k) k p t' ∧ Kept c k w w'
theorem Ht.end_ok {t : Ht} {h : Int} {N : Nat} (H : t.Wf N) (hr : t.resE h = 0) (hu : U64 h) : t.s.endV (wSl h) = 0 := by
  obtain ⟨j, hj, hjN, hl, _⟩ := Ht.res_ok H hr hu
  unfold Gs.endV
  rw [hj, Ht.of_live hl, if_pos rfl]
theorem drpT_any (w : World) (c : Nat → Nat) (k p N : Nat) (t : Ht) (h : Int) (H : Htb w c k p t) (hW : t.Wf N) (hN : N ≤ 4096) (hu : U64 h) :
    Calls Try.prog 19 #[.pointer (some ⟨p, 0, none⟩), .int .u64 h] w (DpE Htb w c k p (t.resE h) (t.drpN h)) := by
  have HR := Lib.hid (resS_any w c k p N t h H hW hN hu)
  unfold RsE at HR
  have HH : Hid (Inn Sls 63 w c k p t.s t.pe) := Lib.hid H
  have HSL := Lib.hid (fun W => slot_any h hu W)
  unfold DpE
  obtain ⟨⟨v1, v2, v3, v4, v5⟩, hv⟩ : ∃ v, t.resV h = v := ⟨_, rfl⟩
  rw [hv] at HR
  unfold enV at HR
  simp only at HR
  by_cases hr : t.resE h = 0
  · obtain ⟨j, hj, hjN, hl, _⟩ := Ht.res_ok hW hr hu
    have hEV := Ht.end_ok hW hr hu
    have HW := Lib.hid hW.gs
    have HU := Lib.hid hu
    have hlen : t.pe.length = N := by rw [Ht.pe_len, hW.el]
    have hat : t.pe[j]? = some (t.en j) := by
      rw [Ht.pe_at (by rw [hW.el]; exact hjN), hl]
      rfl
    have hTB : ∀ W C, Inn Sls 63 W C k p (t.s.endN (j : Int)) (t.pe.set j En.z) → Htb W C k p (t.drpN h) := fun W C hI => by
      have e1 : (t.drpN h).s = t.s.endN (j : Int) := by
        unfold Ht.drpN
        rw [if_pos hr, hj]
      have e2 := Ht.pe_drp hW hr hu
      rw [hj, Int.toNat_natCast] at e2
      unfold Htb
      rw [e1, e2]
      exact hI
    have HTB := Lib.hid hTB
    have HAT := Lib.hid hat
    have HLN := Lib.hid hlen
    rw [hr] at HR
    rw [hj] at HSL hEV
    rw [hr]
    have HEV := Lib.hid hEV
    have hjN' : (j : Int) < (N : Int) := by omega
    clear H hW hu hv hr hj hl hEV hlen hat hTB
    go_enter Try.func19, Try.ntmps19
    go_wp2_with fail
    refine HR.out.mono ?_
    rintro e w1 ⟨rfl, hb1⟩
    have hb2 : Below w.heap.size w (w1.alloc (.cells #[.int .u64 v1, .int .i64 v2, .int .i64 v3, .int .i64 v4, .int .i64 v5] 44)) := hb1.alloc hb1.size _
    have HB2 := Lib.hid hb2
    have HI2 := Lib.hid (Inn.side kl_sls HH.out hb2)
    clear hb1 hb2 HR HH
    go_wp2_with fail
    generalize w1.alloc (.cells #[.int .u64 v1, .int .i64 v2, .int .i64 v3, .int .i64 v4, .int .i64 v5] 44) = w2 at *
    refine (HSL.out _).mono ?_
    rintro e w3 ⟨rfl, rfl⟩
    obtain ⟨d2, q2, b, cap, hIx, p1, hlc, hcm⟩ := HI2.out.opx (i := j) (by rw [HLN.out]; exact hjN)
    rw [HLN.out] at hIx p1 hlc
    unfold maxLen at hcm
    have hput := hIx.put5 kl_sls HAT.out ⟨0, 0, 0, 0, 0⟩ rfl rfl rfl rfl rfl
    simp only at hput
    obtain ⟨⟨s1, t1⟩, ⟨s2, t2⟩, ⟨s3, t3⟩, ⟨s4, t4⟩, ⟨s5, t5⟩, hI5, hK5⟩ := hput
    have HI5 : Hid (Inn _ _ _ _ _ _ _ _) := Lib.hid ⟨_, _, _, hI5⟩
    have HK5 := Lib.hid hK5
    clear hI5 hK5 hIx HAT
    obtain ⟨q, dd, q0, hS, hin⟩ := Inn.inner kl_sls HI5.out
    have HEN := Lib.hid (pc_landed.end_ _ dd 1 q N t.s (j : Int) hS HW.out hN)
    rw [HEV.out] at HEN
    have HIN := Lib.hid hin
    clear hS hin
    go_wp2_with fail
    generalize ((((w2.setCell ⟨b, j * 5, none⟩ (.int .u64 0)).setCell ⟨b, j * 5 + 1, none⟩ (.int .i64 0)).setCell ⟨b, j * 5 + 2, none⟩ (.int .i64 0)).setCell ⟨b, j * 5 + 3, none⟩ (.int .i64 0)).setCell ⟨b, j * 5 + 4, none⟩ (.int .i64 0) = w5 at *
    refine HEN.out.mono ?_
    rintro e w6 ⟨rfl, hS6, hK6⟩
    have HF := Lib.hid (HIN.out _ _ hS6 hK6)
    clear hS6 hK6
    go_wp2
    go_ret
    exact ⟨rfl, HTB.out _ _ (HF.out.1.paint (fun g _ hg => paint_ok (by have h1 := HB2.out.size; have h2 := HK5.out.size; omega) g hg)), Kept.behind HB2.out (fun g hg => rc_old hg) (HK5.out.trans HF.out.2)⟩
  · have hn : t.drpN h = t := if_neg hr
    have hrb : (t.resE h != 0) = true := by simpa using hr
    rw [hn]
    clear H hW hu hv hn
    generalize t.resE h = er at *
    go_enter Try.func19, Try.ntmps19
    go_wp2_with fail
    refine HR.out.mono ?_
    rintro e w1 ⟨rfl, hb1⟩
    have hb2 : Below w.heap.size w (w1.alloc (.cells #[.int .u64 v1, .int .i64 v2, .int .i64 v3, .int .i64 v4, .int .i64 v5] 44)) := hb1.alloc hb1.size _
    have HB2 := Lib.hid hb2
    clear hb1 hb2
    go_wp2
    go_ret
    exact ⟨rfl, Inn.kept kl_sls HH.out (j := k + 1) (Kept.ofBelow HB2.out) (by omega) (fun g hg => rc_old hg), Kept.ofBelow HB2.out⟩
theorem drpM_any (w : World) (c : Nat → Nat) (k p N : Nat) (t : Ht) (h : Int) (H : Hmb w c k p t) (hW : t.Wf N) (hN : N ≤ 4096) (hu : U64 h) :
    Calls Try.prog 20 #[.pointer (some ⟨p, 0, none⟩), .int .u64 h] w (DpE Hmb w c k p (t.resE h) (t.drpN h)) := by
  have HR := Lib.hid (resM_any w c k p N t h H hW hN hu)
  unfold RsE at HR
  have HH : Hid (Inn Mgs 76 w c k p t.s t.e) := Lib.hid H
  have HSL := Lib.hid (fun W => slotR_any h hu W)
  unfold DpE
  obtain ⟨⟨v1, v2, v3, v4, v5⟩, hv⟩ : ∃ v, t.resV h = v := ⟨_, rfl⟩
  rw [hv] at HR
  unfold enV at HR
  simp only at HR
  by_cases hr : t.resE h = 0
  · obtain ⟨j, hj, hjN, hl, _⟩ := Ht.res_ok hW hr hu
    have hEV := Ht.end_ok hW hr hu
    have HW := Lib.hid hW.gs
    have HU := Lib.hid hu
    have hlen : t.e.length = N := by exact hW.el
    have hat : t.e[j]? = some (t.en j) := by
      rw [Ht.en_at (by rw [hW.el]; exact hjN)]
    have hTB : ∀ W C, Inn Mgs 76 W C k p (t.s.endN (j : Int)) t.e → Hmb W C k p (t.drpN h) := fun W C hI => by
      have e1 : (t.drpN h).s = t.s.endN (j : Int) := by
        unfold Ht.drpN
        rw [if_pos hr, hj]
      have e2 : (t.drpN h).e = t.e := by
        unfold Ht.drpN
        rw [if_pos hr]
      unfold Hmb
      rw [e1, e2]
      exact hI
    have HTB := Lib.hid hTB
    have HAT := Lib.hid hat
    have HLN := Lib.hid hlen
    rw [hr] at HR
    rw [hj] at HSL hEV
    rw [hr]
    have HEV := Lib.hid hEV
    have hjN' : (j : Int) < (N : Int) := by omega
    clear H hW hu hv hr hj hl hEV hlen hat hTB
    go_enter Try.func20, Try.ntmps20
    go_wp2_with fail
    refine HR.out.mono ?_
    rintro e w1 ⟨rfl, hb1⟩
    have hb2 : Below w.heap.size w (w1.alloc (.cells #[.int .u64 v1, .int .i64 v2, .int .i64 v3, .int .i64 v4, .int .i64 v5] 44)) := hb1.alloc hb1.size _
    have HB2 := Lib.hid hb2
    have HI2 := Lib.hid (Inn.side kl_mgs HH.out hb2)
    clear hb1 hb2 HR HH
    go_wp2_with fail
    generalize w1.alloc (.cells #[.int .u64 v1, .int .i64 v2, .int .i64 v3, .int .i64 v4, .int .i64 v5] 44) = w2 at *
    obtain ⟨q, dd, q0, hS, hin⟩ := Inn.inner kl_mgs HI2.out
    have HENW := Lib.hid (fun W (hb : Below w2.heap.size w2 W) => endM_any W dd 1 q N t.s (j : Int) (hS.go hb) HW.out (by omega))
    unfold EnM at HENW
    rw [HEV.out] at HENW
    have HIN := Lib.hid (fun W (hb : Below w2.heap.size w2 W) => (Inn.inner kl_mgs (Inn.go kl_mgs HI2.out hb)))
    have HSQ : Hid (∀ z : Later w2, Calls Try.prog 22 #[.int .u64 h] z.val fun e w' => e = .returned (.int .i64 (j : Int)) ∧ Below z.val.heap.size z.val w') := Lib.hid (fun z => (HSL.out z.val).mono fun e w' h => ⟨h.1, h.2 ▸ Below.refl _ _⟩)
    have a1 : ∀ z : Later w2, z.val.cell? ⟨p, 0, none⟩ = some (.pointer (some ⟨q, 0, none⟩)) := fun z => later_old z q0
    refine wp_region_later_tail 6 (by kernel_rfl) (by kernel_rfl) ?_
    simp only [List.take_succ_cons, List.take_zero, List.drop_succ_cons, List.drop_zero]
    repeat (go_big_quiet_step (first | (go_at_call 22; exact Calls.later (HSQ.out _))))
    refine wpQuiet_nil ?_
    rintro w4 ⟨⟨_, hq⟩, rfl⟩
    have HEN := Lib.hid (HENW.out w4 hq)
    clear hS hin HENW HIN HSQ a1
    have HI4 := Lib.hid (Inn.go kl_mgs HI2.out hq)
    obtain ⟨q', dd', q0', hS', hin'⟩ := Inn.inner kl_mgs HI4.out
    obtain rfl : q = q' := by
      have e := (hq.cell (p := ⟨p, 0, none⟩) (lt_of_some q0)).trans q0
      rw [q0'] at e
      injection e with e
      injection e with e
      injection e with e
      injection e with e
      exact e.symm
    have HEN' := Lib.hid (endM_any w4 dd' 1 q N t.s (j : Int) hS' HW.out (by omega))
    unfold EnM at HEN'
    rw [HEV.out] at HEN'
    have HIN' := Lib.hid hin'
    have HB4 := Lib.hid (Below.then HB2.out hq (by have := HB2.out.size; omega))
    clear hS' hin' HEN HSL
    go_wp2_with fail
    refine HEN'.out.mono ?_
    rintro e w6 ⟨rfl, hS6, hK6⟩
    have HF := Lib.hid (HIN'.out _ _ hS6 hK6)
    clear hS6 hK6
    go_wp2
    go_ret
    exact ⟨rfl, HTB.out _ _ (HF.out.1.paint (fun g _ hg => paint_ok (by have h1 := HB4.out.size; omega) g hg)), Kept.behind HB4.out (fun g hg => rc_old hg) HF.out.2⟩
  · have hn : t.drpN h = t := if_neg hr
    have hrb : (t.resE h != 0) = true := by simpa using hr
    rw [hn]
    clear H hW hu hv hn
    generalize t.resE h = er at *
    go_enter Try.func20, Try.ntmps20
    go_wp2_with fail
    refine HR.out.mono ?_
    rintro e w1 ⟨rfl, hb1⟩
    have hb2 : Below w.heap.size w (w1.alloc (.cells #[.int .u64 v1, .int .i64 v2, .int .i64 v3, .int .i64 v4, .int .i64 v5] 44)) := hb1.alloc hb1.size _
    have HB2 := Lib.hid hb2
    clear hb1 hb2
    go_wp2
    go_ret
    exact ⟨rfl, Inn.kept kl_mgs HH.out (j := k + 1) (Kept.ofBelow HB2.out) (by omega) (fun g hg => rc_old hg), Kept.ofBelow HB2.out⟩
theorem givT_any (w : World) (c : Nat → Nat) (k p N : Nat) (t : Ht) (h o : Int) (H : Htb w c k p t) (hW : t.Wf N) (hN : N ≤ 4096) (hu : U64 h) :
    Calls Try.prog 17 #[.pointer (some ⟨p, 0, none⟩), .int .u64 h, .int .i64 o] w (DpE Htb w c k p (t.givE h o) (t.givN h o)) := by
  have HR := Lib.hid (resS_any w c k p N t h H hW hN hu)
  unfold RsE at HR
  have HH : Hid (Inn Sls 63 w c k p t.s t.pe) := Lib.hid H
  have HSL := Lib.hid (fun W => slot_any h hu W)
  have HO := Lib.hid (fun W => owner_any o W)
  unfold DpE
  obtain ⟨⟨v1, v2, v3, v4, v5⟩, hv⟩ : ∃ v, t.resV h = v := ⟨_, rfl⟩
  rw [hv] at HR
  unfold enV at HR
  simp only at HR
  by_cases hr : t.resE h = 0
  · rw [hr] at HR
    by_cases ho : okO o
    · have hg : t.givE h o = 0 := by
        unfold Ht.givE
        rw [if_pos hr, if_pos ho]
      obtain ⟨j, hj, hjN, hl, _⟩ := Ht.res_ok hW hr hu
      have hlen : t.pe.length = N := by rw [Ht.pe_len, hW.el]
      have hat : t.pe[j]? = some (t.en j) := by
        rw [Ht.pe_at (by rw [hW.el]; exact hjN), hl]
        rfl
      have hTB : ∀ W C, Inn Sls 63 W C k p t.s (t.pe.set j { t.en j with o := o }) → Htb W C k p (t.givN h o) := fun W C hI => by
        have e1 : (t.givN h o).s = t.s := by
          unfold Ht.givN
          rw [if_pos hg]
        have e2 := Ht.pe_giv hW hg hu
        rw [hj, Int.toNat_natCast] at e2
        unfold Htb
        rw [e1, e2]
        exact hI
      have HTB := Lib.hid hTB
      have HAT := Lib.hid hat
      have HLN := Lib.hid hlen
      rw [hj] at HSL
      rw [hg]
      have hjN' : (j : Int) < (N : Int) := by omega
      rw [decide_eq_true ho] at HO
      clear H hW hu hv hr hj hl hlen hat hTB hg ho
      go_enter Try.func17, Try.ntmps17
      go_wp2_with fail
      refine HR.out.mono ?_
      rintro e w1 ⟨rfl, hb1⟩
      have hb2 : Below w.heap.size w (w1.alloc (.cells #[.int .u64 v1, .int .i64 v2, .int .i64 v3, .int .i64 v4, .int .i64 v5] 44)) := hb1.alloc hb1.size _
      have HB2 := Lib.hid hb2
      have HI2 := Lib.hid (Inn.side kl_sls HH.out hb2)
      clear hb1 hb2 HR HH
      go_wp2_with fail
      generalize w1.alloc (.cells #[.int .u64 v1, .int .i64 v2, .int .i64 v3, .int .i64 v4, .int .i64 v5] 44) = w2 at *
      refine (HO.out _).mono ?_
      rintro e w3 ⟨rfl, rfl⟩
      go_wp2_with fail
      obtain ⟨d2, q2, b, cap, hIx, p1, hlc, hcm⟩ := HI2.out.opx (i := j) (by rw [HLN.out]; exact hjN)
      rw [HLN.out] at hIx p1 hlc
      unfold maxLen at hcm
      have HIX := Lib.hid hIx
      have HSQ : Hid (∀ z : Later w2, Calls Try.prog 35 #[.int .u64 h] z.val fun e w' => e = .returned (.int .i64 (j : Int)) ∧ Below z.val.heap.size z.val w') := Lib.hid (fun z => (HSL.out z.val).mono fun e w' h => ⟨h.1, h.2 ▸ Below.refl _ _⟩)
      have a1 : ∀ z : Later w2, z.val.cell? ⟨p, 1, none⟩ = some (.slice (some ⟨b, 0, none⟩) N cap) := fun z => later_old z p1
      refine wp_region_later_tail 9 (by kernel_rfl) (by kernel_rfl) ?_
      simp only [List.take_succ_cons, List.take_zero, List.drop_succ_cons, List.drop_zero]
      repeat (go_big_quiet_step (first | (go_at_call 35; exact Calls.later (HSQ.out _))))
      refine wpQuiet_nil ?_
      rintro w4 ⟨⟨_, hq⟩, rfl⟩
      have hIx4 := HIX.out.kept kl_sls (j := k + 1) (Kept.ofBelow hq) (by omega) (fun _ _ => rfl)
      obtain ⟨s1, t1, hI5, hK5⟩ := hIx4.put kl_sls (o := 1) (y := { t.en j with o := o }) (u' := .int .i64 o) HAT.out rfl rfl
      have HI5 := Lib.hid hI5
      have HK5 := Lib.hid ((Kept.ofBelow hq).trans hK5)
      clear a1 hIx4 hI5 hK5 hq HIX hIx HSQ HSL
      go_wp2
      go_ret
      exact ⟨rfl, HTB.out _ _ (Inn.paint ⟨_, _, _, HI5.out⟩ (fun g _ hg => by
        by_cases h1 : g < w.heap.size
        · rw [rc_old h1]
          rwa [rc_old h1] at hg
        · exact rc_new (by omega))), Kept.behind HB2.out (fun g hg => rc_old hg) HK5.out⟩
    · have hg : t.givE h o = 1 := by
        unfold Ht.givE
        rw [if_pos hr, if_neg ho]
      have hn : t.givN h o = t := if_neg (by rw [hg]; omega)
      rw [hg, hn]
      rw [decide_eq_false ho] at HO
      clear H hW hu hv
      go_enter Try.func17, Try.ntmps17
      go_wp2_with fail
      refine HR.out.mono ?_
      rintro e w1 ⟨rfl, hb1⟩
      have hb2 : Below w.heap.size w (w1.alloc (.cells #[.int .u64 v1, .int .i64 v2, .int .i64 v3, .int .i64 v4, .int .i64 v5] 44)) := hb1.alloc hb1.size _
      have HB2 := Lib.hid hb2
      clear hb1 hb2
      go_wp2_with fail
      refine (HO.out _).mono ?_
      rintro e w3 ⟨rfl, rfl⟩
      go_wp2
      go_ret
      exact ⟨rfl, Inn.kept kl_sls HH.out (j := k + 1) (Kept.ofBelow HB2.out) (by omega) (fun g hg => rc_old hg), Kept.ofBelow HB2.out⟩
  · have hg : t.givE h o = t.resE h := if_neg hr
    have hn : t.givN h o = t := if_neg (by rw [hg]; exact hr)
    have hrb : (t.resE h != 0) = true := by simpa using hr
    rw [hg, hn]
    clear hg hn
    generalize t.resE h = er at *
    clear H hW hu hv
    go_enter Try.func17, Try.ntmps17
    go_wp2_with fail
    refine HR.out.mono ?_
    rintro e w1 ⟨rfl, hb1⟩
    have hb2 : Below w.heap.size w (w1.alloc (.cells #[.int .u64 v1, .int .i64 v2, .int .i64 v3, .int .i64 v4, .int .i64 v5] 44)) := hb1.alloc hb1.size _
    have HB2 := Lib.hid hb2
    clear hb1 hb2
    go_wp2
    go_ret
    exact ⟨rfl, Inn.kept kl_sls HH.out (j := k + 1) (Kept.ofBelow HB2.out) (by omega) (fun g hg => rc_old hg), Kept.ofBelow HB2.out⟩
theorem givM_any (w : World) (c : Nat → Nat) (k p N : Nat) (t : Ht) (h o : Int) (H : Hmb w c k p t) (hW : t.Wf N) (hN : N ≤ 4096) (hu : U64 h) :
    Calls Try.prog 18 #[.pointer (some ⟨p, 0, none⟩), .int .u64 h, .int .i64 o] w (DpE Hmb w c k p (t.givE h o) (t.givN h o)) := by
  have HR := Lib.hid (resM_any w c k p N t h H hW hN hu)
  unfold RsE at HR
  have HH : Hid (Inn Mgs 76 w c k p t.s t.e) := Lib.hid H
  have HSL := Lib.hid (fun W => slotR_any h hu W)
  unfold DpE
  obtain ⟨⟨v1, v2, v3, v4, v5⟩, hv⟩ : ∃ v, t.resV h = v := ⟨_, rfl⟩
  rw [hv] at HR
  unfold enV at HR
  simp only at HR
  by_cases hr : t.resE h = 0
  · rw [hr] at HR
    by_cases ho : okO o
    · have hg : t.givE h o = 0 := by
        unfold Ht.givE
        rw [if_pos hr, if_pos ho]
      obtain ⟨j, hj, hjN, hl, _⟩ := Ht.res_ok hW hr hu
      have hlen : t.e.length = N := by exact hW.el
      have hat : t.e[j]? = some (t.en j) := by
        rw [Ht.en_at (by rw [hW.el]; exact hjN)]
      have hTB : ∀ W C, Inn Mgs 76 W C k p t.s (t.e.set j { t.en j with o := o }) → Hmb W C k p (t.givN h o) := fun W C hI => by
        have e1 : (t.givN h o).s = t.s := by
          unfold Ht.givN
          rw [if_pos hg]
        have e2 : (t.givN h o).e = t.e.set j { t.en j with o := o } := by
          unfold Ht.givN
          rw [if_pos hg, hj, Int.toNat_natCast]
        unfold Hmb
        rw [e1, e2]
        exact hI
      have HTB := Lib.hid hTB
      have HAT := Lib.hid hat
      have HLN := Lib.hid hlen
      rw [hj] at HSL
      rw [hg]
      have hjN' : (j : Int) < (N : Int) := by omega
      have ho1 : ¬ o < 1 := by have := ho.1; omega
      have ho2 : ¬ o > 64 := by have := ho.2; omega
      clear H hW hu hv hr hj hl hlen hat hTB hg ho
      go_enter Try.func18, Try.ntmps18
      go_wp2_with fail
      refine HR.out.mono ?_
      rintro e w1 ⟨rfl, hb1⟩
      have hb2 : Below w.heap.size w (w1.alloc (.cells #[.int .u64 v1, .int .i64 v2, .int .i64 v3, .int .i64 v4, .int .i64 v5] 44)) := hb1.alloc hb1.size _
      have HB2 := Lib.hid hb2
      have HI2 := Lib.hid (Inn.side kl_mgs HH.out hb2)
      clear hb1 hb2 HR HH
      go_wp2_with fail
      generalize w1.alloc (.cells #[.int .u64 v1, .int .i64 v2, .int .i64 v3, .int .i64 v4, .int .i64 v5] 44) = w2 at *
      obtain ⟨d2, q2, b, cap, hIx, p1, hlc, hcm⟩ := HI2.out.opx (i := j) (by rw [HLN.out]; exact hjN)
      rw [HLN.out] at hIx p1 hlc
      unfold maxLen at hcm
      have HIX := Lib.hid hIx
      have HSQ : Hid (∀ z : Later w2, Calls Try.prog 22 #[.int .u64 h] z.val fun e w' => e = .returned (.int .i64 (j : Int)) ∧ Below z.val.heap.size z.val w') := Lib.hid (fun z => (HSL.out z.val).mono fun e w' h => ⟨h.1, h.2 ▸ Below.refl _ _⟩)
      have a1 : ∀ z : Later w2, z.val.cell? ⟨p, 1, none⟩ = some (.slice (some ⟨b, 0, none⟩) N cap) := fun z => later_old z p1
      refine wp_region_later_tail 9 (by kernel_rfl) (by kernel_rfl) ?_
      simp only [List.take_succ_cons, List.take_zero, List.drop_succ_cons, List.drop_zero]
      repeat (go_big_quiet_step (first | (go_at_call 22; exact Calls.later (HSQ.out _))))
      refine wpQuiet_nil ?_
      rintro w4 ⟨⟨_, hq⟩, rfl⟩
      have hIx4 := HIX.out.kept kl_mgs (j := k + 1) (Kept.ofBelow hq) (by omega) (fun _ _ => rfl)
      obtain ⟨s1, t1, hI5, hK5⟩ := hIx4.put kl_mgs (o := 1) (y := { t.en j with o := o }) (u' := .int .i64 o) HAT.out rfl rfl
      have HI5 := Lib.hid hI5
      have HK5 := Lib.hid ((Kept.ofBelow hq).trans hK5)
      clear a1 hIx4 hI5 hK5 hq HIX hIx HSQ HSL
      go_wp2
      go_ret
      exact ⟨rfl, HTB.out _ _ (Inn.paint ⟨_, _, _, HI5.out⟩ (fun g _ hg => by
        by_cases h1 : g < w.heap.size
        · rw [rc_old h1]
          rwa [rc_old h1] at hg
        · exact rc_new (by omega))), Kept.behind HB2.out (fun g hg => rc_old hg) HK5.out⟩
    · have hg : t.givE h o = 1 := by
        unfold Ht.givE
        rw [if_pos hr, if_neg ho]
      have hn : t.givN h o = t := if_neg (by rw [hg]; omega)
      rw [hg, hn]
      by_cases ho1 : o < 1
      · clear H hW hu hv
        go_enter Try.func18, Try.ntmps18
        go_wp2_with fail
        refine HR.out.mono ?_
        rintro e w1 ⟨rfl, hb1⟩
        have hb2 : Below w.heap.size w (w1.alloc (.cells #[.int .u64 v1, .int .i64 v2, .int .i64 v3, .int .i64 v4, .int .i64 v5] 44)) := hb1.alloc hb1.size _
        have HB2 := Lib.hid hb2
        clear hb1 hb2
        go_wp2
        go_ret
        exact ⟨rfl, Inn.kept kl_mgs HH.out (j := k + 1) (Kept.ofBelow HB2.out) (by omega) (fun g hg => rc_old hg), Kept.ofBelow HB2.out⟩
      · have ho2 : o > 64 := by unfold okO at ho; omega
        clear H hW hu hv
        go_enter Try.func18, Try.ntmps18
        go_wp2_with fail
        refine HR.out.mono ?_
        rintro e w1 ⟨rfl, hb1⟩
        have hb2 : Below w.heap.size w (w1.alloc (.cells #[.int .u64 v1, .int .i64 v2, .int .i64 v3, .int .i64 v4, .int .i64 v5] 44)) := hb1.alloc hb1.size _
        have HB2 := Lib.hid hb2
        clear hb1 hb2
        go_wp2
        go_ret
        exact ⟨rfl, Inn.kept kl_mgs HH.out (j := k + 1) (Kept.ofBelow HB2.out) (by omega) (fun g hg => rc_old hg), Kept.ofBelow HB2.out⟩
  · have hg : t.givE h o = t.resE h := if_neg hr
    have hn : t.givN h o = t := if_neg (by rw [hg]; exact hr)
    have hrb : (t.resE h != 0) = true := by simpa using hr
    rw [hg, hn]
    clear hg hn
    generalize t.resE h = er at *
    clear H hW hu hv
    go_enter Try.func18, Try.ntmps18
    go_wp2_with fail
    refine HR.out.mono ?_
    rintro e w1 ⟨rfl, hb1⟩
    have hb2 : Below w.heap.size w (w1.alloc (.cells #[.int .u64 v1, .int .i64 v2, .int .i64 v3, .int .i64 v4, .int .i64 v5] 44)) := hb1.alloc hb1.size _
    have HB2 := Lib.hid hb2
    clear hb1 hb2
    go_wp2
    go_ret
    exact ⟨rfl, Inn.kept kl_mgs HH.out (j := k + 1) (Kept.ofBelow HB2.out) (by omega) (fun g hg => rc_old hg), Kept.ofBelow HB2.out⟩
end
end Go.Proofs.Ytaoojgnkbcoggaa
