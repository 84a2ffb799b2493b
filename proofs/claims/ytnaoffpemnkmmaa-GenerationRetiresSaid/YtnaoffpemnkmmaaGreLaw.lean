/-
  The law GenerationRetires as a walk: called with any arguments of its types it returns true. No conditions.
-/
import Derived.Test.YtnaoffpemnkmmaaGpl
import Derived.Test.YtnaoffpemnkmmaaGso
namespace Go.Proofs.Ytnaoffpemnkmmaa
open Go.ChangeShapes Go.WideShapes Go.RowKit
set_option linter.unusedVariables false
set_option linter.unusedSimpArgs false
set_option maxHeartbeats 8000000
set_option maxRecDepth 100000

/-- The number of generations that are left, where no slot is live. -/
def lft (x : Int × Bool) : Int := 4294967296 - x.1
def Gs.tot (s : Gs) : Int := (s.sts.map lft).sum
theorem sum_set {l : List (Int × Bool)} {j : Nat} {x y : Int × Bool} (h : l[j]? = some x) : ((l.set j y).map lft).sum = (l.map lft).sum - lft x + lft y := by
  induction l generalizing j with
  | nil => simp at h
  | cons z l ih =>
    cases j with
    | zero =>
      simp at h
      subst h
      rw [List.set_cons_zero, List.map_cons, List.map_cons, List.sum_cons, List.sum_cons]
      omega
    | succ j =>
      have := ih (j := j) (by simpa using h)
      rw [List.set_cons_succ, List.map_cons, List.map_cons, List.sum_cons, List.sum_cons]
      omega
theorem sum_zero {l : List (Int × Bool)} (h : ∀ x ∈ l, lft x = 0) : (l.map lft).sum = 0 := by
  induction l with
  | nil => rfl
  | cons z l ih =>
    rw [List.map_cons, List.sum_cons, h z (by simp), ih (fun x hx => h x (by simp [hx]))]
    rfl
theorem sum_pos {l : List (Int × Bool)} (h : ∀ x ∈ l, 0 ≤ lft x) : 0 ≤ (l.map lft).sum ∧ ∀ y ∈ l, lft y ≤ (l.map lft).sum := by
  induction l with
  | nil => exact ⟨Int.le_refl _, fun y hy => by cases hy⟩
  | cons z l ih =>
    obtain ⟨h1, h2⟩ := ih (fun x hx => h x (by simp [hx]))
    have hz := h z (by simp)
    rw [List.map_cons, List.sum_cons]
    refine ⟨by omega, fun y hy => ?_⟩
    rcases List.mem_cons.1 hy with rfl | hy
    · omega
    · have := h2 y hy
      omega
section
variable {s : Gs} {N : Nat} {d : Int}
theorem Gs.tot_new {n : Nat} {first : Int} : (Gs.new n first).tot = n * (4294967296 - first) := by
  unfold Gs.tot
  rw [Gs.sts_new]
  induction n with
  | zero => simp
  | succ n ih =>
    rw [List.replicate_succ, List.map_cons, List.sum_cons, ih]
    unfold lft
    rw [Int.natCast_add, Int.add_mul]
    omega
theorem Gs.dead (h : s.Wf N) (hl : s.lv = 0) {j : Nat} (hj : j < N) : s.live[j]? = some false := by
  have hjl : j < s.live.length := by rw [h.ll]; exact hj
  rw [List.getElem?_eq_getElem hjl]
  cases hx : s.live[j] with
  | false => rfl
  | true =>
    exfalso
    unfold Gs.lv at hl
    rw [List.count_eq_zero] at hl
    exact hl (hx ▸ List.getElem_mem hjl)
theorem Gs.lefts (h : s.Wf N) (hl : s.lv = 0) : ∀ x ∈ s.sts, ∃ j : Nat, j < N ∧ x = (s.nxt j, false) := fun x hx => by
  obtain ⟨j, hj⟩ := List.getElem?_of_mem hx
  have hjl : j < s.sts.length := (List.getElem?_eq_some_iff.1 hj).1
  rw [Gs.sts_len] at hjl
  have hjN : j < N := by rw [← h.gl]; exact hjl
  rw [Gs.sts_dead hjl (Gs.dead h hl hjN)] at hj
  exact ⟨j, hjN, (Option.some.inj hj).symm⟩
theorem Gs.tot_none (h : s.Wf N) (hl : s.lv = 0) (hf : s.free = []) : s.tot = 0 := sum_zero fun x hx => by
  obtain ⟨j, hj, rfl⟩ := Gs.lefts h hl x hx
  rcases h.ex j hj (Gs.dead h hl hj) with e | e
  · rw [hf] at e
    cases e
  · unfold lft Gs.nxt
    have := h.f1
    rw [if_neg (by omega), e]
    rfl
theorem Gs.tot_all (h : s.Wf N) (hl : s.lv = 0) (ht : s.tot = 0) : s.free = [] := by
  cases hfr : s.free with
  | nil => rfl
  | cons x l =>
    exfalso
    obtain ⟨j, rfl, hj, _, hg⟩ := h.fr x (by rw [hfr]; simp)
    have hm : (s.nxt j, false) ∈ s.sts := List.mem_of_getElem? (Gs.sts_dead (by rw [h.gl]; exact hj) (Gs.dead h hl hj))
    have hp := (sum_pos (l := s.sts) fun x hx => by
      obtain ⟨i, hi, rfl⟩ := Gs.lefts h hl x hx
      unfold lft Gs.nxt
      have h1 := h.f1
      have h2 := h.gb i hi
      split <;> simp only <;> omega).2 _ hm
    have h3 := (h.nx hj hg).2.1
    unfold Gs.tot at ht
    rw [ht] at hp
    unfold lft at hp
    simp only at hp
    omega
/-- What an Issue and an End of the same slot do. -/
theorem Gs.turn (h : s.Wf N) (hl : s.lv = 0) (hf : s.free ≠ []) : ∃ (j : Nat) (g : Int), s.issV d = ((j : Int), g, 0) ∧ (s.issN d).endV (j : Int) = 0 ∧ ((s.issN d).endN (j : Int)).lv = 0 ∧ ((s.issN d).endN (j : Int)).tot = s.tot - 1 := by
  obtain ⟨j, hv, hx, hj, hlj, hgj⟩ := Gs.iss_ok (d := d) h hf
  have hjg : j < s.gen.length := by rw [h.gl]; exact hj
  have hjl : j < s.live.length := by rw [h.ll]; exact hj
  have e1 : (s.issN d).live = s.live.set j true ∧ (s.issN d).gen = s.gen.set j (s.nxt j) := by
    unfold Gs.issN
    rw [if_neg hf, hx, Int.toNat_natCast]
    exact ⟨rfl, rfl⟩
  have hlv : (s.issN d).live[j]? = some true := by rw [e1.1, List.getElem?_set_self hjl]
  have hof : ((s.issN d).of (j : Int)).2 = true := by
    unfold Gs.of
    rw [Int.toNat_natCast, if_pos ⟨by omega, hlv⟩]
  have hW1 := h.iss (d := d)
  refine ⟨j, s.nxt j, hv, if_pos hof, ?_, ?_⟩
  · have e2 : ((s.issN d).endN (j : Int)).live = (s.issN d).live.set j false := by
      unfold Gs.endN
      rw [if_pos hof, Int.toNat_natCast]
      split <;> rfl
    have hc := count_set (b' := true) hlj
    have hc2 := count_set (b' := false) hlv
    unfold Gs.lv at hl ⊢
    rw [e2]
    rw [e1.1] at hc2 ⊢
    simp only [Bool.false_eq_true, if_true, if_false] at hc hc2
    omega
  · unfold Gs.tot
    rw [Gs.sts_end hW1 hlv, e1.2, getD_set_eq hjg, Gs.sts_iss h hf hx hj, List.set_set, sum_set (Gs.sts_dead hjg hlj)]
    unfold lft
    simp only
    omega
end
theorem generationRetires_walk (a0 a1 : Int) (a2 : Option Addr) (len2 cap2 : Nat) (z2 : List Int) (w : World) (w0 : (Lit.int .u8 a0).wf = true) (w1 : (Lit.int .u8 a1).wf = true) (w2 : IsRow .u64 w a2 len2 cap2 z2) :
    Calls Try.prog 7 #[.int .u8 a0, .int .u8 a1, .slice a2 len2 cap2] w fun e w' => e = .returned (.bool true) ∧ Below w.heap.size w w' := by
  have b0 := byte_bd w0
  have b1 := byte_bd w1
  have hm0 := Int.emod_nonneg a0 (show (5 : Int) ≠ 0 by omega)
  have hl0 := Int.emod_lt_of_pos a0 (show (0 : Int) < 5 by omega)
  have hm1 := Int.emod_nonneg a1 (show (5 : Int) ≠ 0 by omega)
  have hl1 := Int.emod_lt_of_pos a1 (show (0 : Int) < 5 by omega)
  have HC := Lib.hid pc_landed
  have HN := Lib.hid (Solo.new HC.out (1 + a0 % 5) (4294967295 - (1 + a1 % 5) + 1) w (by omega) (by omega))
  obtain ⟨hrow, hfit⟩ := w2.row
  generalize z2.take len2 = L at *
  have HROW := Lib.hid hrow
  have HFIT := Lib.hid hfit
  have hlen : L.length = len2 := by have := hrow.len; rwa [iv_len] at this
  have hcap := hrow.cap
  have hsm := hrow.small
  unfold maxLen at hsm
  have hMb : 0 ≤ (1 + a0 % 5) * (1 + a1 % 5) ∧ (1 + a0 % 5) * (1 + a1 % 5) ≤ 25 := by
    have h5 : a1 % 5 = 0 ∨ a1 % 5 = 1 ∨ a1 % 5 = 2 ∨ a1 % 5 = 3 ∨ a1 % 5 = 4 := by omega
    rcases h5 with e | e | e | e | e <;> rw [e] <;> omega
  obtain ⟨M, hM⟩ : ∃ M : Nat, (1 + a0 % 5) * (1 + a1 % 5) = (M : Int) := ⟨((1 + a0 % 5) * (1 + a1 % 5)).toNat, by omega⟩
  have hM25 : M ≤ 25 := by omega
  have HM := Lib.hid hM
  obtain ⟨N, hNN⟩ : ∃ N, (1 + a0 % 5).toNat = N := ⟨_, rfl⟩
  rw [hNN] at HN
  have HNE : Hid ((N : Int) = 1 + a0 % 5) := Lib.hid (by omega)
  have HT : Hid ((Gs.new N (4294967295 - (1 + a1 % 5) + 1)).tot = (M : Int)) := Lib.hid (by
    rw [Gs.tot_new, HNE.out, ← HM.out]
    exact congrArg ((1 + a0 % 5) * ·) (by omega))
  clear w0 w1 w2 hNN hM hrow hfit
  go_enter Try.func7, Try.ntmps7
  go_wp2_with fail
  refine HN.out.mono ?_
  rintro e wa ⟨p, rfl, hS, hba⟩
  have HS0 : Hid (Below w.heap.size w wa ∧ ∃ s, Solo Sls w.heap.size N wa p s ∧ s.lv = 0 ∧ s.tot = (M : Int) - 0) := Lib.hid ⟨hba, _, hS, by simp [Gs.new, Gs.lv, List.count_replicate], by rw [HT.out]; omega⟩
  clear hS hba HN HT
  go_wp2
  go_loopw [11] (fun kv wr => ∃ i : Nat, i ≤ M ∧ kv = .int .i64 i ∧ Hid (Below w.heap.size w wr ∧ ∃ s, Solo Sls w.heap.size N wr p s ∧ s.lv = 0 ∧ s.tot = (M : Int) - i)) (fun kv _ => M - (intOf kv).toNat)
  case atStart => exact ⟨0, by omega, rfl, HS0⟩
  case round =>
    obtain ⟨i, hi, rfl, hh⟩ := hrel
    by_cases hin : i < M
    · have hi1 : (i : Int) < (1 + a0 % 5) * (1 + a1 % 5) := by rw [HM.out]; omega
      obtain ⟨hB, s, hS, hlv, htt⟩ := hh.out
      have hf : s.free ≠ [] := fun e => by have := Gs.tot_none hS.wf hlv e; omega
      have HB := Lib.hid hB
      have HS := Lib.hid hS
      have HTU : Hid (∀ d : Int, ∃ (j : Nat) (g : Int), s.issV d = ((j : Int), g, 0) ∧ (s.issN d).endV (j : Int) = 0 ∧ ((s.issN d).endN (j : Int)).lv = 0 ∧ ((s.issN d).endN (j : Int)).tot = (M : Int) - (i + 1 : Nat)) := Lib.hid (fun d => by
        obtain ⟨j, g, h1, h2, h3, h4⟩ := Gs.turn (d := d) hS.wf hlv hf
        exact ⟨j, g, h1, h2, h3, by omega⟩)
      clear hh hB hS hlv htt hf
      by_cases hil : i < len2
      · have hi2 : (i : Int) < (len2 : Int) := by omega
        obtain ⟨b, o, rfl, hb, e0⟩ := (HROW.out.below HB.out).int (j := i) hil
        have hd := u64_bd (HFIT.out.at_ (by decide) i)
        generalize L.getD i 0 = d at *
        obtain ⟨j, g, hv, he, hlv, htt⟩ := HTU.out d
        have HI := Lib.hid (HS.out.issue HC.out d (by omega))
        rw [hv] at HI
        have HE := Lib.hid he
        have HL := Lib.hid (And.intro hlv htt)
        clear hv he hlv htt HTU
        go_wp2_with fail
        refine HI.out.mono ?_
        rintro e wc ⟨rfl, hSc, hbc⟩
        have HX := Lib.hid (hSc.end_ HC.out (j : Int))
        rw [HE.out] at HX
        have HBc := Lib.hid (HB.out.trans hbc)
        clear hSc hbc HI
        go_wp2_with fail
        refine HX.out.mono ?_
        rintro e wd ⟨rfl, hSd, hbd⟩
        have HY : Hid (Below w.heap.size w wd ∧ ∃ s, Solo Sls w.heap.size N wd p s ∧ s.lv = 0 ∧ s.tot = (M : Int) - (i + 1 : Nat)) := Lib.hid ⟨HBc.out.trans hbd, _, hSd, HL.out.1, HL.out.2⟩
        clear hSd hbd HX
        go_wp2
        go_roundw
        case rel => exact ⟨i + 1, by omega, by go_num, HY⟩
        case measure => simp [intOf]; omega
      · have hi2 : ¬ (i : Int) < (len2 : Int) := by omega
        obtain ⟨j, g, hv, he, hlv, htt⟩ := HTU.out (i : Int)
        have HI := Lib.hid (HS.out.issue HC.out (i : Int) (by omega))
        rw [hv] at HI
        have HE := Lib.hid he
        have HL := Lib.hid (And.intro hlv htt)
        clear hv he hlv htt HTU
        go_wp2_with fail
        refine HI.out.mono ?_
        rintro e wc ⟨rfl, hSc, hbc⟩
        have HX := Lib.hid (hSc.end_ HC.out (j : Int))
        rw [HE.out] at HX
        have HBc := Lib.hid (HB.out.trans hbc)
        clear hSc hbc HI
        go_wp2_with fail
        refine HX.out.mono ?_
        rintro e wd ⟨rfl, hSd, hbd⟩
        have HY : Hid (Below w.heap.size w wd ∧ ∃ s, Solo Sls w.heap.size N wd p s ∧ s.lv = 0 ∧ s.tot = (M : Int) - (i + 1 : Nat)) := Lib.hid ⟨HBc.out.trans hbd, _, hSd, HL.out.1, HL.out.2⟩
        clear hSd hbd HX
        go_wp2
        go_roundw
        case rel => exact ⟨i + 1, by omega, by go_num, HY⟩
        case measure => simp [intOf]; omega
    · obtain rfl : i = M := by omega
      have hi1 : ¬ (i : Int) < (1 + a0 % 5) * (1 + a1 % 5) := by rw [HM.out]; omega
      obtain ⟨hB, s, hS, hlv, htt⟩ := hh.out
      have hf : s.free = [] := Gs.tot_all hS.wf hlv (by omega)
      have hct := hS.wf.ct
      have hg : s.gone = 1 + a0 % 5 := by
        have := HNE.out
        rw [hf, hlv] at hct
        simp at hct
        omega
      have HG := Lib.hid hg
      have HF := Lib.hid hf
      have HI := Lib.hid (hS.issue HC.out 1 (by omega))
      rw [show s.issV 1 = (0, 0, 17) from if_pos hf, show s.issN 1 = s from if_pos hf] at HI
      have HB := Lib.hid hB
      clear hh hB hS hlv htt hf hct hg
      go_wp2_with fail
      refine HI.out.mono ?_
      rintro e wc ⟨rfl, hSc, hbc⟩
      have HSc := Lib.hid hSc
      have HBc := Lib.hid (HB.out.trans hbc)
      clear hSc hbc HI
      go_wp2_with fail
      refine (awake12_any HC.out wc).mono ?_
      rintro e wd ⟨rfl, hbd⟩
      have HSd := Lib.hid (HSc.out.go HC.out hbd)
      have HBd := Lib.hid (Below.then HBc.out hbd (Nat.le_refl _))
      have HR := Lib.hid (HSd.out.retired HC.out)
      rw [HG.out] at HR
      clear hbd
      go_wp2_with fail
      refine HR.out.mono ?_
      rintro e we ⟨rfl, hSe, hbe⟩
      have HP := Lib.hid (hSe.pool HC.out)
      have HBe := Lib.hid (HBd.out.trans hbe)
      clear hSe hbe HR
      go_wp2_with fail
      refine HP.out.mono ?_
      rintro e wf ⟨⟨A7, n7, c7, rfl, hn7⟩, hSf, hbf⟩
      rw [HF.out] at hn7
      obtain rfl : n7 = 0 := hn7
      have HBf := Lib.hid (HBe.out.trans hbf)
      clear hSf hbf HP
      go_wp2
      go_ret
      exact ⟨rfl, HBf.out⟩
end Go.Proofs.Ytnaoffpemnkmmaa
