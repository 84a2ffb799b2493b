/-
  Contract of the landed ledger's Lend. Conditions: at most a hundred thousand borrows.
-/
import Derived.Test.YtmmlelmkgnhofaaLdy
import Derived.Test.YtmmlelmkgnhofaaRtl
import Derived.WalkSpells
namespace Go.Proofs.Ytmmlelmkgnhofaa
open Go.ChangeShapes Go.WideShapes Go.ChangeAt Go.RowKit
open Go.Maps (Keyed int_keyed)
set_option linter.unusedVariables false
set_option linter.unusedSimpArgs false
set_option maxHeartbeats 4000000
set_option maxRecDepth 100000

section
variable {w w' : World} {c : Nat → Nat} {k p b n N : Nat} {D : DataW Value} {sl : Int → Value} {L L' : List Bo} {o h m : Int} {q : Option Addr}
theorem lend_nil (w : World) (o h m : Int) : Calls Try.prog 16 #[.pointer none, .int .i64 o, .int .i64 h, .int .i64 m] w fun e w' => e = .returned (.int .i64 1) ∧ w = w' := by
  go_enter Try.func16, Try.ntmps16
  go_wp2
  go_ret
  exact ⟨rfl, rfl⟩
theorem lend_bad (hm : ¬ (m = 1 ∨ m = 2)) : Calls Try.prog 16 #[.pointer (some ⟨p, 0, none⟩), .int .i64 o, .int .i64 h, .int .i64 m] w fun e w' => e = .returned (.int .i64 1) ∧ w = w' := by
  have h1 : (m != 1) = true := by simp; omega
  have h2 : (m != 2) = true := by simp; omega
  clear hm
  go_enter Try.func16, Try.ntmps16
  go_wp2
  go_ret
  exact ⟨rfl, rfl⟩
theorem md_ne {o : Int} {L : List Bo} (hW : Wl N L) (h : md o L ≠ 0) : 0 < (ofL o L).length := by
  obtain ⟨x, h1, h2, _⟩ := md_mem h
  exact List.length_pos_of_mem (mem_of.2 ⟨h1, h2⟩)
theorem lend_busy (H : Led w c k p L) (hW : Wl N L) (hN : N ≤ 100000) (ho : Ri o) (hm : m = 1 ∨ m = 2) (hx : md o L = 2 ∨ (m = 2 ∧ md o L ≠ 0)) :
    Calls Try.prog 16 #[.pointer (some ⟨p, 0, none⟩), .int .i64 o, .int .i64 h, .int .i64 m] w fun e w' => e = .returned (.int .i64 14) ∧ w = w' := by
  have hpos : 0 < (ofL o L).length := md_ne hW (by omega)
  obtain ⟨hcp, mv, hp, hmv⟩ := H
  obtain ⟨A, n0, cap, hr, hown⟩ := hmv.look ho
  obtain ⟨A', n', cap', e, hk⟩ := hown.1.shape
  cases e
  have c0 := cell_of_row w p 0 _ _ _ hp
  have hlen := hk.len
  have HL := Lib.hid (lentAs_any A n0 cap _ 2 _ w hk (md_at o) (by omega))
  clear hp hmv hown hk
  by_cases h2 : md o L = 2
  · rw [decide_eq_true h2] at HL
    clear hx h2
    rcases hm with rfl | rfl
    all_goals
      go_enter Try.func16, Try.ntmps16
      go_wp2_with fail
      refine HL.out.mono ?_
      rintro e w1 ⟨rfl, rfl⟩
      clear HL
      go_wp2
      go_ret
      exact ⟨rfl, rfl⟩
  · rw [decide_eq_false h2] at HL
    obtain rfl : m = 2 := by omega
    have hn0 : (0 : Int) < (n0 : Int) := by omega
    have hd : decide ((0 : Int) < (n0 : Int)) = true := decide_eq_true hn0
    clear hx h2 hm
    go_enter Try.func16, Try.ntmps16
    go_wp2_with fail
    refine HL.out.mono ?_
    rintro e w1 ⟨rfl, rfl⟩
    clear HL
    go_wp2
    go_ret
    exact ⟨rfl, rfl⟩
theorem eql_none (W : World) : (binOp .eql 52 (.map none) (.map none)).run Try.prog W = .ok (.bool true) W := run_eql_map_nil W _ _ _ none Try.underlying52
theorem eql_some (b : Nat) (W : World) : (binOp .eql 52 (.map (some b)) (.map none)).run Try.prog W = .ok (.bool false) W := run_eql_map_nil W _ _ _ (some b) Try.underlying52
theorem run_oneB {ρ : Operand → Value} {o : Oper} {x : Operand} {a0 a1 a2 a3 : Int} (h : o.op = .buildSlice 26 1 #[(0, x)]) (hx : ρ x = .agg #[.int .i64 a0, .int .i64 a1, .int .i64 a2, .int .i64 a3]) (w : World) :
    (execOp ρ o).run Try.prog w = .ok (.value (.slice (some ⟨w.heap.size, 0, none⟩) 1 1)) (w.alloc (.cells #[.int .i64 a0, .int .i64 a1, .int .i64 a2, .int .i64 a3] 47)) := by
  unfold execOp
  simp only [h]
  go_simp
theorem cnt_none (hh : hasL o h L = none) : cnt o h L + 1 = 1 := by unfold cnt; rw [hh]; rfl
theorem nf_of {i : Nat} (hf : false = true ↔ ∃ z, (ofL o L)[i]? = some z ∧ z.h = h) : ∀ z, (ofL o L)[i]? = some z → z.h ≠ h := fun z hz e => by
  have := hf.2 ⟨z, hz, e⟩
  cases this
theorem has_no {i : Nat} (hL : Srt L) (hlb : Lbo (ofL o L) h i) (hf : false = true ↔ ∃ z, (ofL o L)[i]? = some z ∧ z.h = h) : hasL o h L = none := by
  cases e : hasL o h L with
  | none => rfl
  | some z =>
    have := ((found_none hL hlb hf).2 z e).1
    cases this
theorem lend_first (hcp : c p = k) (hp : w.heap[p]? = some (.cells #[.map none] 54 (0, 0))) (ho : Ri o) (hm : m = 1 ∨ m = 2) :
    Calls Try.prog 16 #[.pointer (some ⟨p, 0, none⟩), .int .i64 o, .int .i64 h, .int .i64 m] w (LdE w c k p (.int .i64 0) (putL ⟨o, h, m, cnt o h [] + 1⟩ [])) := by
  have c0 := cell_of_row w p 0 _ _ _ hp
  have hr : (Instr.lookup 52 (.map none) (.int .i64 o) false).run Try.prog w = .ok (.slice none 0 0) w := Maps.look_nil false law3 Try.underlying52 (zeroB w) (key3 ho)
  have hk : Kws bo4 w w.heap.size none 0 0 (ofL o []) := Kws.none_
  have HL := Lib.hid (lentAs_any none 0 0 (ofL o []) 2 0 w hk (.inl ⟨rfl, rfl⟩) (by omega))
  have HF := Lib.hid (find_any none 0 0 (ofL o []) h _ hk (by omega) List.Pairwise.nil)
  rw [decide_eq_false (show ¬ (0 : Int) = 2 by omega)] at HL
  have HPW := Lib.hid hp
  have HCPW := Lib.hid hcp
  have HO := Lib.hid ho
  unfold FoundB at HF
  clear hk ho hcp hp
  rcases hm with rfl | rfl
  · go_enter Try.func16, Try.ntmps16
    go_wp2_with fail
    refine HL.out.mono ?_
    rintro e w0 ⟨rfl, rfl⟩
    go_wp2_with fail
    refine HF.out.mono ?_
    rintro e wf ⟨i, f, rfl, hlb, hf, hb⟩
    have hf0 : f = false := by
      cases f with
      | false => rfl
      | true =>
        obtain ⟨z, hz, _⟩ := hf.1 rfl
        simp [ofL] at hz
    subst hf0
    have hpf := (hb.block p (Array.getElem?_eq_some_iff.1 HPW.out).1).trans HPW.out
    have HM := Lib.hid (Led.mapped (c := rc c w.heap.size k) (k := k) (by rw [rc_old (Array.getElem?_eq_some_iff.1 HPW.out).1]; exact HCPW.out) hpf)
    have cf := cell_of_row wf p 0 _ _ _ hpf
    have ff := frozen_of_row wf p 0 _ _ hpf
    have cfa := cell_under cf (.map #[] 0)
    have ffa := frozen_of_row (wf.alloc (.map #[] 0)) p 0 _ _ ((Below.heap_alloc wf (.map #[] 0) p (Array.getElem?_eq_some_iff.1 hpf).1).trans hpf)
    have HLB := Lib.hid hlb
    have HNF := Lib.hid (nf_of hf)
    have HB := Lib.hid hb
    have HCN := Lib.hid (cnt_none (has_no (L := []) List.Pairwise.nil hlb hf))
    have hmm := @run_makeMap Try.prog
    have hen := eql_none wf
    have HCPX : Hid (rc (rc c w.heap.size k) wf.heap.size k p = k) := Lib.hid (by
      have h1 := (Array.getElem?_eq_some_iff.1 hpf).1
      have h2 := (Array.getElem?_eq_some_iff.1 HPW.out).1
      rw [rc_old h1, rc_old h2]
      exact HCPW.out)
    clear hlb hf hb HF HL hr c0
    go_wp2_with fail
    obtain ⟨sl, m1, m2, m3, m4, m5⟩ := HM.out
    rw [rc_rc HB.out.size] at m2 m4 HCPX
    generalize (wf.alloc (.map #[] 0)).setCell ⟨p, 0, none⟩ (.map (some wf.heap.size)) = wx at *
    generalize wf.heap.size = b at *
    have HP := Lib.hid m1
    have HCB := Lib.hid m2
    have HOW := Lib.hid (own_map m3)
    have HS := Lib.hid m4
    have HKX : Hid (Kept c k w wx) := Lib.hid ((Kept.ofBelow HB.out).then (fun g hg => rc_old hg) m5)
    have HCP := HCPX
    have HW : Hid (Wl 0 []) := Lib.hid Wl.nil
    have HSZ : Hid (Maps.size (.map [] : DataW Value) < maxLen) := Lib.hid (by unfold maxLen; simp [Maps.size])
    have HE0 : Hid (sl o = .slice none 0 0) := Lib.hid (by
      have := m4.at_ o HO.out
      injection this with this
      exact this.symm)
    clear m1 m2 m3 m4 m5 HM cf cfa ffa ff hpf hmm hen HCPX HB
    refine wp_region_headed 13 (fun W => W.cell? ⟨p, 0, none⟩ = some (.map (some b))) (by kernel_rfl) (by kernel_rfl) ?_
    simp only [List.take_succ_cons, List.take_zero, List.drop_succ_cons, List.drop_zero]
    have HD0 := Lib.hid (below_drewN (Below.refl wx.heap.size wx) 1)
    have hHeld : (wx.drewN 1).cell? ⟨p, 0, none⟩ = some (.map (some b)) := cell_of_row wx p 0 _ _ _ HP.out
    refine held_take (i := 0) (d := 63) (v := .pointer (some ⟨p, 0, none⟩)) rfl rfl (by kernel_rfl) (by kernel_rfl) (by kernel_rfl) (fun _ _ _ h => h) (by rfl) (fun W _ => run_move_is (.tmp 0) rfl rfl W) hHeld ?_
    simp only [Act.put, List.setIfInBounds_toArray, List.set_cons_zero, List.set_cons_succ]
    refine held_take (i := 1) (d := 64) (v := .pointer (some ⟨p, 0, none⟩)) rfl rfl (by kernel_rfl) (by kernel_rfl) (by kernel_rfl) (fun _ _ _ h => h) (by rfl) (fun W _ => by go_simp) hHeld ?_
    simp only [Act.put, List.setIfInBounds_toArray, List.set_cons_zero, List.set_cons_succ]
    refine held_take (i := 2) (d := 65) (v := .pointer (some ⟨p, 0, none⟩)) rfl rfl (by kernel_rfl) (by kernel_rfl) (by kernel_rfl) (fun _ _ _ h => h) (by rfl) (fun W _ => by go_simp) hHeld ?_
    simp only [Act.put, List.setIfInBounds_toArray, List.set_cons_zero, List.set_cons_succ]
    refine held_take (i := 3) (d := 66) (v := .map (some b)) rfl rfl (by kernel_rfl) (by kernel_rfl) (by kernel_rfl) (fun _ _ _ h => h) (by rfl) (fun W hS => by go_simp) hHeld ?_
    simp only [Act.put, List.setIfInBounds_toArray, List.set_cons_zero, List.set_cons_succ]
    refine held_take (i := 4) (d := 67) (v := .int .i64 o) rfl rfl (by kernel_rfl) (by kernel_rfl) (by kernel_rfl) (fun _ _ _ h => h) (by rfl) (fun W _ => run_move_is (.tmp 1) rfl rfl W) hHeld ?_
    simp only [Act.put, List.setIfInBounds_toArray, List.set_cons_zero, List.set_cons_succ]
    refine held_take (i := 5) (d := 68) (v := .slice none 0 0) rfl rfl (by kernel_rfl) (by kernel_rfl) (by kernel_rfl) (fun _ _ _ h => h) (by rfl) (fun W _ => run_move_is (.tmp 9) rfl rfl W) hHeld ?_
    simp only [Act.put, List.setIfInBounds_toArray, List.set_cons_zero, List.set_cons_succ]
    refine held_take (i := 6) (d := 69) (v := .int .i64 (i : Int)) rfl rfl (by kernel_rfl) (by kernel_rfl) (by kernel_rfl) (fun _ _ _ h => h) (by rfl) (fun W _ => run_move_is (.tmp 10) rfl rfl W) hHeld ?_
    simp only [Act.put, List.setIfInBounds_toArray, List.set_cons_zero, List.set_cons_succ]
    refine held_take (i := 7) (d := 70) (v := .int .i64 o) rfl rfl (by kernel_rfl) (by kernel_rfl) (by kernel_rfl) (fun _ _ _ h => h) (by rfl) (fun W _ => run_move_is (.tmp 1) rfl rfl W) hHeld ?_
    simp only [Act.put, List.setIfInBounds_toArray, List.set_cons_zero, List.set_cons_succ]
    refine held_take (i := 8) (d := 71) (v := .int .i64 h) rfl rfl (by kernel_rfl) (by kernel_rfl) (by kernel_rfl) (fun _ _ _ h => h) (by rfl) (fun W _ => run_move_is (.tmp 2) rfl rfl W) hHeld ?_
    simp only [Act.put, List.setIfInBounds_toArray, List.set_cons_zero, List.set_cons_succ]
    refine held_take (i := 9) (d := 72) (v := .int .i64 1) rfl rfl (by kernel_rfl) (by kernel_rfl) (by kernel_rfl) (fun _ _ _ h => h) (by rfl) (fun W _ => run_move_is (.tmp 3) rfl rfl W) hHeld ?_
    simp only [Act.put, List.setIfInBounds_toArray, List.set_cons_zero, List.set_cons_succ]
    refine held_take (i := 10) (d := 73) (v := .agg #[.int .i64 o, .int .i64 h, .int .i64 1, .int .i64 1]) rfl rfl (by kernel_rfl) (by kernel_rfl) (by kernel_rfl) (fun _ _ _ h => h) (by rfl) (fun W _ => by go_simp) hHeld ?_
    simp only [Act.put, List.setIfInBounds_toArray, List.set_cons_zero, List.set_cons_succ]
    refine held_one (i := 11) (by kernel_rfl) ?_
    have HBW : Hid (Below wx.heap.size wx ((wx.drewN 1).alloc (.cells #[.int .i64 o, .int .i64 h, .int .i64 1, .int .i64 1] 47))) := Lib.hid (HD0.out.alloc (Nat.le_refl _) _)
    have HNB : Hid (((wx.drewN 1).alloc (.cells #[.int .i64 o, .int .i64 h, .int .i64 1, .int .i64 1] 47)).heap[wx.heap.size]? = some (.cells #[.int .i64 o, .int .i64 h, .int .i64 1, .int .i64 1] 47 (0, 0))) := Lib.hid (heap_alloc_new (wx.drewN 1) _)
    have HZW : Hid (((wx.drewN 1).alloc (.cells #[.int .i64 o, .int .i64 h, .int .i64 1, .int .i64 1] 47)).heap.size = wx.heap.size + 1) := Lib.hid (by simp)
    refine held_make (d := 74) rfl rfl (by rfl) (by exact run_oneB (x := .tmp 73) rfl rfl _) ⟨cell_of_row _ p 0 _ _ _ ((HBW.out.block p (Array.getElem?_eq_some_iff.1 HP.out).1).trans HP.out), ?_⟩
    clear hHeld HD0
    simp only [Act.put, List.setIfInBounds_toArray, List.set_cons_zero, List.set_cons_succ]
    have HIN := Lib.hid (insert1_any (sl o) (ofL o []) 0 i wx.heap.size ⟨o, h, 1, 1⟩ _ ((HS.out.own o HO.out).1.below HBW.out) HLB.out.le (by have := HW.out.len; have := of_len (o := o) (L := []); omega) (Nat.zero_le _) HNB.out (fun e => Nat.lt_irrefl _ ((HS.out.own o HO.out).1.ge e).2))
    rw [HE0.out] at HIN
    refine held_one (i := 12) (by kernel_rfl) ?_
    refine held_callX (d := 75) rfl rfl (by rfl) rfl (by kernel_rfl) Try.func36 (by kernel_rfl) HIN.out ?_
    rintro e w1 ⟨v', rfl, ho1, hg1, hb1⟩
    have HG1 : Hid (wx.grownBy w1 (sl o).ownBlock) := Lib.hid (by rw [HE0.out]; exact grown_trans (grown_below HBW.out _) hg1)
    have HB1 : Hid (v'.ownBlock = (sl o).ownBlock ∨ ∀ g, v'.ownBlock = some g → wx.heap.size ≤ g) := Lib.hid (by rw [HE0.out]; exact hb1.imp id (fun e g hg => by rw [e, HZW.out] at hg; have := Option.some.inj hg; omega))
    have HOL : Hid (ofL o (putL ⟨o, h, 1, 1⟩ []) = (ofL o []).take i ++ ⟨o, h, 1, 1⟩ :: (ofL o []).drop i) := Lib.hid (of_ins (b := ⟨o, h, 1, 1⟩) HW.out.srt HLB.out HNF.out).symm
    have HO1 : Hid (OwnK bo4 47 w1 0 v' (ofL o (putL ⟨o, h, 1, 1⟩ []))) := Lib.hid (by rw [HOL.out]; exact ho1)
    have hSo := HS.out.own o HO.out
    have hp1 := (HG1.out.block p (Array.getElem?_eq_some_iff.1 HP.out).1 (fun e => led_ne HP.out hSo.1 e.symm)).trans HP.out
    have hown1 := ownsMap_keep HOW.out (HG1.out.block b HOW.out.lt (fun e => own_ne_map HOW.out hSo.1 e.symm))
    refine ⟨_, rfl, cell_of_row w1 p 0 _ _ _ hp1, ?_⟩
    simp only [Act.put, List.setIfInBounds_toArray, List.set_cons_zero, List.set_cons_succ]
    refine wpAnyH_done (by kernel_rfl) ?_ _
    obtain ⟨A1, n1, cap1, rfl, hx1⟩ := HO1.out.shape
    clear ho1 hg1 hb1 hp1 hx1 HIN HBW HNB HZW HOL
    simp only [atEnd]
    go_wp2_with (first | (at_mapUpdate; refine wpList_mapUpdate_own _ rfl _ _ _ 52 rfl 3 26 law3 Try.underlying52 tk b _ (.map []) rfl hown1 HSZ.out _ _ _ rfl rfl (key3 HO.out) (.held (.slice A1 n1 cap1)) [] rfl ?_; intro w2 hown2 hg2))
    go_ret
    have hk2 : OwnK bo4 47 w2 0 (.slice A1 n1 cap1) (ofL o (putL ⟨o, h, 1, 1⟩ [])) := OwnK.kept HO1.out hg2 (.inr (own_ne_map hown1 HO1.out))
    have hnz : ofL o (putL ⟨o, h, 1, 1⟩ []) ≠ [] := fun e => by
      have : (⟨o, h, 1, 1⟩ : Bo) ∈ ofL o (putL ⟨o, h, 1, 1⟩ []) := mem_of.2 ⟨mem_put.2 (.inl rfl), rfl⟩
      rw [e] at this
      cases this
    have U := Led.upd (L' := putL ⟨o, h, 1, 1⟩ []) HCP.out HP.out HCB.out HOW.out HS.out HO.out HG1.out hg2 hown2 hk2 HB1.out (fun o' hne => of_put_other hne) (by rw [Maps.has_put_same hown1.isMap (isKey3 HO.out)]; simp [hnz]) (Maps.atKey_put_same hown1.isMap (isKey3 HO.out) _ _) (fun o' hne => ⟨Maps.has_put_other (lit_ne hne) _, Maps.atKey_put_other (lit_ne hne) _ _⟩) (fun x hx => by
      rcases mem_put.1 hx with rfl | ⟨h1, _⟩
      · exact HO.out
      · exact HW.out.ri x h1)
    rw [HCN.out]
    exact LdE.later HKX.out ⟨rfl, U⟩
  · go_enter Try.func16, Try.ntmps16
    go_wp2_with fail
    refine HL.out.mono ?_
    rintro e w0 ⟨rfl, rfl⟩
    go_wp2_with fail
    refine HF.out.mono ?_
    rintro e wf ⟨i, f, rfl, hlb, hf, hb⟩
    have hf0 : f = false := by
      cases f with
      | false => rfl
      | true =>
        obtain ⟨z, hz, _⟩ := hf.1 rfl
        simp [ofL] at hz
    subst hf0
    have hpf := (hb.block p (Array.getElem?_eq_some_iff.1 HPW.out).1).trans HPW.out
    have HM := Lib.hid (Led.mapped (c := rc c w.heap.size k) (k := k) (by rw [rc_old (Array.getElem?_eq_some_iff.1 HPW.out).1]; exact HCPW.out) hpf)
    have cf := cell_of_row wf p 0 _ _ _ hpf
    have ff := frozen_of_row wf p 0 _ _ hpf
    have cfa := cell_under cf (.map #[] 0)
    have ffa := frozen_of_row (wf.alloc (.map #[] 0)) p 0 _ _ ((Below.heap_alloc wf (.map #[] 0) p (Array.getElem?_eq_some_iff.1 hpf).1).trans hpf)
    have HLB := Lib.hid hlb
    have HNF := Lib.hid (nf_of hf)
    have HB := Lib.hid hb
    have HCN := Lib.hid (cnt_none (has_no (L := []) List.Pairwise.nil hlb hf))
    have hmm := @run_makeMap Try.prog
    have hen := eql_none wf
    have HCPX : Hid (rc (rc c w.heap.size k) wf.heap.size k p = k) := Lib.hid (by
      have h1 := (Array.getElem?_eq_some_iff.1 hpf).1
      have h2 := (Array.getElem?_eq_some_iff.1 HPW.out).1
      rw [rc_old h1, rc_old h2]
      exact HCPW.out)
    clear hlb hf hb HF HL hr c0
    go_wp2_with fail
    obtain ⟨sl, m1, m2, m3, m4, m5⟩ := HM.out
    rw [rc_rc HB.out.size] at m2 m4 HCPX
    generalize (wf.alloc (.map #[] 0)).setCell ⟨p, 0, none⟩ (.map (some wf.heap.size)) = wx at *
    generalize wf.heap.size = b at *
    have HP := Lib.hid m1
    have HCB := Lib.hid m2
    have HOW := Lib.hid (own_map m3)
    have HS := Lib.hid m4
    have HKX : Hid (Kept c k w wx) := Lib.hid ((Kept.ofBelow HB.out).then (fun g hg => rc_old hg) m5)
    have HCP := HCPX
    have HW : Hid (Wl 0 []) := Lib.hid Wl.nil
    have HSZ : Hid (Maps.size (.map [] : DataW Value) < maxLen) := Lib.hid (by unfold maxLen; simp [Maps.size])
    have HE0 : Hid (sl o = .slice none 0 0) := Lib.hid (by
      have := m4.at_ o HO.out
      injection this with this
      exact this.symm)
    clear m1 m2 m3 m4 m5 HM cf cfa ffa ff hpf hmm hen HCPX HB
    refine wp_region_headed 13 (fun W => W.cell? ⟨p, 0, none⟩ = some (.map (some b))) (by kernel_rfl) (by kernel_rfl) ?_
    simp only [List.take_succ_cons, List.take_zero, List.drop_succ_cons, List.drop_zero]
    have HD0 := Lib.hid (below_drewN (Below.refl wx.heap.size wx) 1)
    have hHeld : (wx.drewN 1).cell? ⟨p, 0, none⟩ = some (.map (some b)) := cell_of_row wx p 0 _ _ _ HP.out
    refine held_take (i := 0) (d := 63) (v := .pointer (some ⟨p, 0, none⟩)) rfl rfl (by kernel_rfl) (by kernel_rfl) (by kernel_rfl) (fun _ _ _ h => h) (by rfl) (fun W _ => run_move_is (.tmp 0) rfl rfl W) hHeld ?_
    simp only [Act.put, List.setIfInBounds_toArray, List.set_cons_zero, List.set_cons_succ]
    refine held_take (i := 1) (d := 64) (v := .pointer (some ⟨p, 0, none⟩)) rfl rfl (by kernel_rfl) (by kernel_rfl) (by kernel_rfl) (fun _ _ _ h => h) (by rfl) (fun W _ => by go_simp) hHeld ?_
    simp only [Act.put, List.setIfInBounds_toArray, List.set_cons_zero, List.set_cons_succ]
    refine held_take (i := 2) (d := 65) (v := .pointer (some ⟨p, 0, none⟩)) rfl rfl (by kernel_rfl) (by kernel_rfl) (by kernel_rfl) (fun _ _ _ h => h) (by rfl) (fun W _ => by go_simp) hHeld ?_
    simp only [Act.put, List.setIfInBounds_toArray, List.set_cons_zero, List.set_cons_succ]
    refine held_take (i := 3) (d := 66) (v := .map (some b)) rfl rfl (by kernel_rfl) (by kernel_rfl) (by kernel_rfl) (fun _ _ _ h => h) (by rfl) (fun W hS => by go_simp) hHeld ?_
    simp only [Act.put, List.setIfInBounds_toArray, List.set_cons_zero, List.set_cons_succ]
    refine held_take (i := 4) (d := 67) (v := .int .i64 o) rfl rfl (by kernel_rfl) (by kernel_rfl) (by kernel_rfl) (fun _ _ _ h => h) (by rfl) (fun W _ => run_move_is (.tmp 1) rfl rfl W) hHeld ?_
    simp only [Act.put, List.setIfInBounds_toArray, List.set_cons_zero, List.set_cons_succ]
    refine held_take (i := 5) (d := 68) (v := .slice none 0 0) rfl rfl (by kernel_rfl) (by kernel_rfl) (by kernel_rfl) (fun _ _ _ h => h) (by rfl) (fun W _ => run_move_is (.tmp 9) rfl rfl W) hHeld ?_
    simp only [Act.put, List.setIfInBounds_toArray, List.set_cons_zero, List.set_cons_succ]
    refine held_take (i := 6) (d := 69) (v := .int .i64 (i : Int)) rfl rfl (by kernel_rfl) (by kernel_rfl) (by kernel_rfl) (fun _ _ _ h => h) (by rfl) (fun W _ => run_move_is (.tmp 10) rfl rfl W) hHeld ?_
    simp only [Act.put, List.setIfInBounds_toArray, List.set_cons_zero, List.set_cons_succ]
    refine held_take (i := 7) (d := 70) (v := .int .i64 o) rfl rfl (by kernel_rfl) (by kernel_rfl) (by kernel_rfl) (fun _ _ _ h => h) (by rfl) (fun W _ => run_move_is (.tmp 1) rfl rfl W) hHeld ?_
    simp only [Act.put, List.setIfInBounds_toArray, List.set_cons_zero, List.set_cons_succ]
    refine held_take (i := 8) (d := 71) (v := .int .i64 h) rfl rfl (by kernel_rfl) (by kernel_rfl) (by kernel_rfl) (fun _ _ _ h => h) (by rfl) (fun W _ => run_move_is (.tmp 2) rfl rfl W) hHeld ?_
    simp only [Act.put, List.setIfInBounds_toArray, List.set_cons_zero, List.set_cons_succ]
    refine held_take (i := 9) (d := 72) (v := .int .i64 2) rfl rfl (by kernel_rfl) (by kernel_rfl) (by kernel_rfl) (fun _ _ _ h => h) (by rfl) (fun W _ => run_move_is (.tmp 3) rfl rfl W) hHeld ?_
    simp only [Act.put, List.setIfInBounds_toArray, List.set_cons_zero, List.set_cons_succ]
    refine held_take (i := 10) (d := 73) (v := .agg #[.int .i64 o, .int .i64 h, .int .i64 2, .int .i64 1]) rfl rfl (by kernel_rfl) (by kernel_rfl) (by kernel_rfl) (fun _ _ _ h => h) (by rfl) (fun W _ => by go_simp) hHeld ?_
    simp only [Act.put, List.setIfInBounds_toArray, List.set_cons_zero, List.set_cons_succ]
    refine held_one (i := 11) (by kernel_rfl) ?_
    have HBW : Hid (Below wx.heap.size wx ((wx.drewN 1).alloc (.cells #[.int .i64 o, .int .i64 h, .int .i64 2, .int .i64 1] 47))) := Lib.hid (HD0.out.alloc (Nat.le_refl _) _)
    have HNB : Hid (((wx.drewN 1).alloc (.cells #[.int .i64 o, .int .i64 h, .int .i64 2, .int .i64 1] 47)).heap[wx.heap.size]? = some (.cells #[.int .i64 o, .int .i64 h, .int .i64 2, .int .i64 1] 47 (0, 0))) := Lib.hid (heap_alloc_new (wx.drewN 1) _)
    have HZW : Hid (((wx.drewN 1).alloc (.cells #[.int .i64 o, .int .i64 h, .int .i64 2, .int .i64 1] 47)).heap.size = wx.heap.size + 1) := Lib.hid (by simp)
    refine held_make (d := 74) rfl rfl (by rfl) (by exact run_oneB (x := .tmp 73) rfl rfl _) ⟨cell_of_row _ p 0 _ _ _ ((HBW.out.block p (Array.getElem?_eq_some_iff.1 HP.out).1).trans HP.out), ?_⟩
    clear hHeld HD0
    simp only [Act.put, List.setIfInBounds_toArray, List.set_cons_zero, List.set_cons_succ]
    have HIN := Lib.hid (insert1_any (sl o) (ofL o []) 0 i wx.heap.size ⟨o, h, 2, 1⟩ _ ((HS.out.own o HO.out).1.below HBW.out) HLB.out.le (by have := HW.out.len; have := of_len (o := o) (L := []); omega) (Nat.zero_le _) HNB.out (fun e => Nat.lt_irrefl _ ((HS.out.own o HO.out).1.ge e).2))
    rw [HE0.out] at HIN
    refine held_one (i := 12) (by kernel_rfl) ?_
    refine held_callX (d := 75) rfl rfl (by rfl) rfl (by kernel_rfl) Try.func36 (by kernel_rfl) HIN.out ?_
    rintro e w1 ⟨v', rfl, ho1, hg1, hb1⟩
    have HG1 : Hid (wx.grownBy w1 (sl o).ownBlock) := Lib.hid (by rw [HE0.out]; exact grown_trans (grown_below HBW.out _) hg1)
    have HB1 : Hid (v'.ownBlock = (sl o).ownBlock ∨ ∀ g, v'.ownBlock = some g → wx.heap.size ≤ g) := Lib.hid (by rw [HE0.out]; exact hb1.imp id (fun e g hg => by rw [e, HZW.out] at hg; have := Option.some.inj hg; omega))
    have HOL : Hid (ofL o (putL ⟨o, h, 2, 1⟩ []) = (ofL o []).take i ++ ⟨o, h, 2, 1⟩ :: (ofL o []).drop i) := Lib.hid (of_ins (b := ⟨o, h, 2, 1⟩) HW.out.srt HLB.out HNF.out).symm
    have HO1 : Hid (OwnK bo4 47 w1 0 v' (ofL o (putL ⟨o, h, 2, 1⟩ []))) := Lib.hid (by rw [HOL.out]; exact ho1)
    have hSo := HS.out.own o HO.out
    have hp1 := (HG1.out.block p (Array.getElem?_eq_some_iff.1 HP.out).1 (fun e => led_ne HP.out hSo.1 e.symm)).trans HP.out
    have hown1 := ownsMap_keep HOW.out (HG1.out.block b HOW.out.lt (fun e => own_ne_map HOW.out hSo.1 e.symm))
    refine ⟨_, rfl, cell_of_row w1 p 0 _ _ _ hp1, ?_⟩
    simp only [Act.put, List.setIfInBounds_toArray, List.set_cons_zero, List.set_cons_succ]
    refine wpAnyH_done (by kernel_rfl) ?_ _
    obtain ⟨A1, n1, cap1, rfl, hx1⟩ := HO1.out.shape
    clear ho1 hg1 hb1 hp1 hx1 HIN HBW HNB HZW HOL
    simp only [atEnd]
    go_wp2_with (first | (at_mapUpdate; refine wpList_mapUpdate_own _ rfl _ _ _ 52 rfl 3 26 law3 Try.underlying52 tk b _ (.map []) rfl hown1 HSZ.out _ _ _ rfl rfl (key3 HO.out) (.held (.slice A1 n1 cap1)) [] rfl ?_; intro w2 hown2 hg2))
    go_ret
    have hk2 : OwnK bo4 47 w2 0 (.slice A1 n1 cap1) (ofL o (putL ⟨o, h, 2, 1⟩ [])) := OwnK.kept HO1.out hg2 (.inr (own_ne_map hown1 HO1.out))
    have hnz : ofL o (putL ⟨o, h, 2, 1⟩ []) ≠ [] := fun e => by
      have : (⟨o, h, 2, 1⟩ : Bo) ∈ ofL o (putL ⟨o, h, 2, 1⟩ []) := mem_of.2 ⟨mem_put.2 (.inl rfl), rfl⟩
      rw [e] at this
      cases this
    have U := Led.upd (L' := putL ⟨o, h, 2, 1⟩ []) HCP.out HP.out HCB.out HOW.out HS.out HO.out HG1.out hg2 hown2 hk2 HB1.out (fun o' hne => of_put_other hne) (by rw [Maps.has_put_same hown1.isMap (isKey3 HO.out)]; simp [hnz]) (Maps.atKey_put_same hown1.isMap (isKey3 HO.out) _ _) (fun o' hne => ⟨Maps.has_put_other (lit_ne hne) _, Maps.atKey_put_other (lit_ne hne) _ _⟩) (fun x hx => by
      rcases mem_put.1 hx with rfl | ⟨h1, _⟩
      · exact HO.out
      · exact HW.out.ri x h1)
    rw [HCN.out]
    exact LdE.later HKX.out ⟨rfl, U⟩
theorem lend_more {nm : Nat} (hcp : c p = k) (hp : w.heap[p]? = some (.cells #[.map (some b)] 54 (0, 0))) (hcb : c b = k) (hown : w.ownsMap Try.prog 3 tk b nm D) (S : Slm w c k D sl L) (hW : Wl N L) (hN : N ≤ 100000) (ho : Ri o) (hm : m = 1 ∨ m = 2) (hx : ¬ (md o L = 2 ∨ (m = 2 ∧ md o L ≠ 0))) :
    Calls Try.prog 16 #[.pointer (some ⟨p, 0, none⟩), .int .i64 o, .int .i64 h, .int .i64 m] w (LdE w c k p (.int .i64 0) (putL ⟨o, h, m, cnt o h L + 1⟩ L)) := by
  have hlL := hW.len
  have hoL := of_len (o := o) (L := L)
  have hSo := S.own o ho
  obtain ⟨A, n0, cap, e0, hk⟩ := hSo.1.shape
  have hr := S.look hown ho
  rw [e0] at hr
  have c0 := cell_of_row w p 0 _ _ _ hp
  have hlen := hk.len
  have hcap := hk.cap
  have hsm := hk.small
  unfold maxLen at hsm
  have HL := Lib.hid (lentAs_any A n0 cap _ 2 _ w hk (md_at o) (by omega))
  rw [decide_eq_false (show ¬ md o L = 2 by omega)] at HL
  have HF := Lib.hid (find_any A n0 cap _ h _ hk (by omega) (hW.srt.hs o))
  have HW := Lib.hid hW
  have HO := Lib.hid ho
  have HPW := Lib.hid hp
  have HCPW := Lib.hid hcp
  have HCBW := Lib.hid hcb
  have HOWW := Lib.hid hown
  have HSW := Lib.hid S
  have HE0 := Lib.hid e0
  have HSZ : Hid (Maps.size D < maxLen) := Lib.hid (by have := size_le hown S; unfold maxLen; omega)
  -- shared: what is there is shared; exclusive: nothing is there
  have HM1 : Hid (m = 1 → ∀ z, hasL o h L = some z → z.m = 1) := Lib.hid (fun hm1 z hz => by
    obtain ⟨h1, h2, _⟩ := hW.has_cnt hz
    have h3 := hW.md_all h1
    rw [h2] at h3
    have := hW.mo z h1
    omega)
  have HM2 : Hid (m = 2 → n0 = 0 ∧ hasL o h L = none) := Lib.hid (fun hm2 => by
    have h2 : md o L = 0 := by omega
    have h3 := md_none h2 hW.mo
    rw [h3] at hlen
    refine ⟨hlen.symm, ?_⟩
    cases hz : hasL o h L with
    | none => rfl
    | some z =>
      obtain ⟨h4, h5, _⟩ := has_some hz
      have h6 : z ∈ ofL o L := mem_of.2 ⟨h4, h5⟩
      rw [h3] at h6
      cases h6)
  unfold FoundB at HF
  clear hk hx hW ho hcp hp hcb hown S e0 hSo
  rcases hm with rfl | rfl
  · replace HM1 := Lib.hid (HM1.out rfl)
    clear HM2
    go_enter Try.func16, Try.ntmps16
    go_wp2_with fail
    refine HL.out.mono ?_
    rintro e w0 ⟨rfl, rfl⟩
    go_wp2_with fail
    refine HF.out.mono ?_
    rintro e wx ⟨i, f, rfl, hlb, hf, hb⟩
    have hK : Kept c (k + 1) w wx := Kept.ofBelow hb
    have hpl : p < w.heap.size := (Array.getElem?_eq_some_iff.1 HPW.out).1
    have hbl := HOWW.out.lt
    have HS : Hid (Slm wx (rc c w.heap.size k) k D sl L) := Lib.hid (HSW.out.kept hK (by omega) (fun g hg => rc_old hg))
    have HP := Lib.hid ((hb.block p hpl).trans HPW.out)
    have HOW := Lib.hid (own_map (ownsMap_keep HOWW.out (hb.block b hbl)))
    have HCP : Hid (rc c w.heap.size k p = k) := Lib.hid (by rw [rc_old hpl]; exact HCPW.out)
    have HCB : Hid (rc c w.heap.size k b = k) := Lib.hid (by rw [rc_old hbl]; exact HCBW.out)
    have HKX : Hid (Kept c k w wx) := Lib.hid (Kept.ofBelow hb)
    have HLB := Lib.hid hlb
    have cf := cell_of_row wx p 0 _ _ _ HP.out
    have hen := eql_some b wx
    cases f with
    | true =>
      -- found: its count grows
      obtain ⟨z, hz, hzh⟩ := hf.1 rfl
      have HHZ : Hid (hasL o h L = some z) := Lib.hid (by rw [has_at HW.out.srt hlb, hz, Option.filter_some, if_pos (by simpa using hzh)])
      have hzm := HM1.out z HHZ.out
      obtain ⟨z1, z2, z3, z4, z5, z6⟩ := HW.out.has_cnt HHZ.out
      have hzz : z = ⟨o, h, 1, z.c⟩ := by
        obtain ⟨zo, zh, zm, zc⟩ := z
        simp only at z2 z3 hzm
        subst z2 z3 hzm
        rfl
      have hSof := HS.out.own o HO.out
      obtain ⟨g, cap', ev, _, hgl, cel, fro, hst⟩ := hSof.1.store (i := i) (j := 3) (x := z) (y := ⟨o, h, 1, z.c + 1⟩) (u := .int .i64 z.c) (u' := .int .i64 (z.c + 1)) hz rfl (by rw [hzz]; rfl)
      rw [HE0.out] at ev
      injection ev with ev1 ev2 ev3
      subst ev1 ev2 ev3
      have hsetL := of_set (b := ⟨o, h, 1, z.c + 1⟩) HW.out.srt hlb hz hzh
      rw [hsetL] at hst
      have hri1 : ∀ x ∈ putL ⟨o, h, 1, z.c + 1⟩ L, Ri x.o := fun x hx => by
        rcases mem_put.1 hx with rfl | ⟨h1, _⟩
        · exact HO.out
        · exact HW.out.ri x h1
      have hnz : ofL o (putL ⟨o, h, 1, z.c + 1⟩ L) ≠ [] := fun e => by
        have : (⟨o, h, 1, z.c + 1⟩ : Bo) ∈ ofL o (putL ⟨o, h, 1, z.c + 1⟩ L) := mem_of.2 ⟨mem_put.2 (.inl rfl), rfl⟩
        rw [e] at this
        cases this
      have hgrow : wx.grownBy (wx.setCell ⟨g, i * 4 + 3, none⟩ (.int .i64 (z.c + 1))) (sl o).ownBlock := by
        rw [HE0.out]
        exact run_setAt wx g (i * 4 + 3) _
      have hown1 := HOW.out.setCell (a := ⟨g, i * 4 + 3, none⟩) (fun e => own_ne_map HOW.out hSof.1 (by rw [HE0.out]; simp only at e; rw [e]; rfl)) (.int .i64 (z.c + 1))
      have U := Led.upd (v' := sl o) HCP.out HP.out HCB.out HOW.out HS.out HO.out hgrow (World.grownBy.refl _ _) hown1 (by rw [HE0.out] at hst ⊢; exact hst) (.inl rfl) (fun o' hne => of_put_other hne) (by rw [HS.out.has o HO.out]; simp only [ne_eq, hnz, not_false_eq_true, iff_true]; intro e; rw [e] at hz; simp at hz) (HS.out.at_ o HO.out) (fun o' _ => ⟨rfl, rfl⟩) hri1
      have HU := Lib.hid (LdE.later (r := .int .i64 0) (e := .returned (.int .i64 0)) HKX.out ⟨rfl, U⟩)
      have HC : Hid (cnt o h L = z.c) := Lib.hid (by unfold cnt; rw [HHZ.out])
      have cel0 : wx.cell? ⟨g, i * 4 + 3, none⟩ = some (.int .i64 z.c) := cel
      have fro0 : wx.frozen? ⟨g, i * 4 + 3, none⟩ = false := fro
      have hi0 : (0 : Int) ≤ (i : Int) := by omega
      have hil : i < (ofL o L).length := (List.getElem?_eq_some_iff.1 hz).1
      have hi1 : (i : Int) < ((ofL o L).length : Int) := by omega
      have hc1 : z.c + 1 ≤ 9223372036854775807 := by omega
      have hc0 : -9223372036854775808 ≤ z.c + 1 := by omega
      clear HF HL hr hlb hf hb hz hzh hSof hst hri1 hnz hgrow hown1 U cel fro hsetL hil hK hpl hbl hzz
      go_wp2
      go_ret
      rw [HC.out]
      exact HU.out
    | false =>
      have HNF := Lib.hid (nf_of hf)
      have HCN := Lib.hid (cnt_none (has_no HW.out.srt hlb hf))
      clear hlb hf hb HF HL hr c0 hK hpl hbl
      go_wp2_with fail
      refine wp_region_headed 13 (fun W => W.cell? ⟨p, 0, none⟩ = some (.map (some b))) (by kernel_rfl) (by kernel_rfl) ?_
      simp only [List.take_succ_cons, List.take_zero, List.drop_succ_cons, List.drop_zero]
      have HD0 := Lib.hid (below_drewN (Below.refl wx.heap.size wx) 1)
      have hHeld : (wx.drewN 1).cell? ⟨p, 0, none⟩ = some (.map (some b)) := cell_of_row wx p 0 _ _ _ HP.out
      refine held_take (i := 0) (d := 63) (v := .pointer (some ⟨p, 0, none⟩)) rfl rfl (by kernel_rfl) (by kernel_rfl) (by kernel_rfl) (fun _ _ _ h => h) (by rfl) (fun W _ => run_move_is (.tmp 0) rfl rfl W) hHeld ?_
      simp only [Act.put, List.setIfInBounds_toArray, List.set_cons_zero, List.set_cons_succ]
      refine held_take (i := 1) (d := 64) (v := .pointer (some ⟨p, 0, none⟩)) rfl rfl (by kernel_rfl) (by kernel_rfl) (by kernel_rfl) (fun _ _ _ h => h) (by rfl) (fun W _ => by go_simp) hHeld ?_
      simp only [Act.put, List.setIfInBounds_toArray, List.set_cons_zero, List.set_cons_succ]
      refine held_take (i := 2) (d := 65) (v := .pointer (some ⟨p, 0, none⟩)) rfl rfl (by kernel_rfl) (by kernel_rfl) (by kernel_rfl) (fun _ _ _ h => h) (by rfl) (fun W _ => by go_simp) hHeld ?_
      simp only [Act.put, List.setIfInBounds_toArray, List.set_cons_zero, List.set_cons_succ]
      refine held_take (i := 3) (d := 66) (v := .map (some b)) rfl rfl (by kernel_rfl) (by kernel_rfl) (by kernel_rfl) (fun _ _ _ h => h) (by rfl) (fun W hS => by go_simp) hHeld ?_
      simp only [Act.put, List.setIfInBounds_toArray, List.set_cons_zero, List.set_cons_succ]
      refine held_take (i := 4) (d := 67) (v := .int .i64 o) rfl rfl (by kernel_rfl) (by kernel_rfl) (by kernel_rfl) (fun _ _ _ h => h) (by rfl) (fun W _ => run_move_is (.tmp 1) rfl rfl W) hHeld ?_
      simp only [Act.put, List.setIfInBounds_toArray, List.set_cons_zero, List.set_cons_succ]
      refine held_take (i := 5) (d := 68) (v := .slice A n0 cap) rfl rfl (by kernel_rfl) (by kernel_rfl) (by kernel_rfl) (fun _ _ _ h => h) (by rfl) (fun W _ => run_move_is (.tmp 9) rfl rfl W) hHeld ?_
      simp only [Act.put, List.setIfInBounds_toArray, List.set_cons_zero, List.set_cons_succ]
      refine held_take (i := 6) (d := 69) (v := .int .i64 (i : Int)) rfl rfl (by kernel_rfl) (by kernel_rfl) (by kernel_rfl) (fun _ _ _ h => h) (by rfl) (fun W _ => run_move_is (.tmp 10) rfl rfl W) hHeld ?_
      simp only [Act.put, List.setIfInBounds_toArray, List.set_cons_zero, List.set_cons_succ]
      refine held_take (i := 7) (d := 70) (v := .int .i64 o) rfl rfl (by kernel_rfl) (by kernel_rfl) (by kernel_rfl) (fun _ _ _ h => h) (by rfl) (fun W _ => run_move_is (.tmp 1) rfl rfl W) hHeld ?_
      simp only [Act.put, List.setIfInBounds_toArray, List.set_cons_zero, List.set_cons_succ]
      refine held_take (i := 8) (d := 71) (v := .int .i64 h) rfl rfl (by kernel_rfl) (by kernel_rfl) (by kernel_rfl) (fun _ _ _ h => h) (by rfl) (fun W _ => run_move_is (.tmp 2) rfl rfl W) hHeld ?_
      simp only [Act.put, List.setIfInBounds_toArray, List.set_cons_zero, List.set_cons_succ]
      refine held_take (i := 9) (d := 72) (v := .int .i64 1) rfl rfl (by kernel_rfl) (by kernel_rfl) (by kernel_rfl) (fun _ _ _ h => h) (by rfl) (fun W _ => run_move_is (.tmp 3) rfl rfl W) hHeld ?_
      simp only [Act.put, List.setIfInBounds_toArray, List.set_cons_zero, List.set_cons_succ]
      refine held_take (i := 10) (d := 73) (v := .agg #[.int .i64 o, .int .i64 h, .int .i64 1, .int .i64 1]) rfl rfl (by kernel_rfl) (by kernel_rfl) (by kernel_rfl) (fun _ _ _ h => h) (by rfl) (fun W _ => by go_simp) hHeld ?_
      simp only [Act.put, List.setIfInBounds_toArray, List.set_cons_zero, List.set_cons_succ]
      refine held_one (i := 11) (by kernel_rfl) ?_
      have HBW : Hid (Below wx.heap.size wx ((wx.drewN 1).alloc (.cells #[.int .i64 o, .int .i64 h, .int .i64 1, .int .i64 1] 47))) := Lib.hid (HD0.out.alloc (Nat.le_refl _) _)
      have HNB : Hid (((wx.drewN 1).alloc (.cells #[.int .i64 o, .int .i64 h, .int .i64 1, .int .i64 1] 47)).heap[wx.heap.size]? = some (.cells #[.int .i64 o, .int .i64 h, .int .i64 1, .int .i64 1] 47 (0, 0))) := Lib.hid (heap_alloc_new (wx.drewN 1) _)
      have HZW : Hid (((wx.drewN 1).alloc (.cells #[.int .i64 o, .int .i64 h, .int .i64 1, .int .i64 1] 47)).heap.size = wx.heap.size + 1) := Lib.hid (by simp)
      refine held_make (d := 74) rfl rfl (by rfl) (by exact run_oneB (x := .tmp 73) rfl rfl _) ⟨cell_of_row _ p 0 _ _ _ ((HBW.out.block p (Array.getElem?_eq_some_iff.1 HP.out).1).trans HP.out), ?_⟩
      clear hHeld HD0
      simp only [Act.put, List.setIfInBounds_toArray, List.set_cons_zero, List.set_cons_succ]
      have HIN := Lib.hid (insert1_any (sl o) (ofL o L) 0 i wx.heap.size ⟨o, h, 1, 1⟩ _ ((HS.out.own o HO.out).1.below HBW.out) HLB.out.le (by have := HW.out.len; have := of_len (o := o) (L := L); omega) (Nat.zero_le _) HNB.out (fun e => Nat.lt_irrefl _ ((HS.out.own o HO.out).1.ge e).2))
      rw [HE0.out] at HIN
      refine held_one (i := 12) (by kernel_rfl) ?_
      refine held_callX (d := 75) rfl rfl (by rfl) rfl (by kernel_rfl) Try.func36 (by kernel_rfl) HIN.out ?_
      rintro e w1 ⟨v', rfl, ho1, hg1, hb1⟩
      have HG1 : Hid (wx.grownBy w1 (sl o).ownBlock) := Lib.hid (by rw [HE0.out]; exact grown_trans (grown_below HBW.out _) hg1)
      have HB1 : Hid (v'.ownBlock = (sl o).ownBlock ∨ ∀ g, v'.ownBlock = some g → wx.heap.size ≤ g) := Lib.hid (by rw [HE0.out]; exact hb1.imp id (fun e g hg => by rw [e, HZW.out] at hg; have := Option.some.inj hg; omega))
      have HOL : Hid (ofL o (putL ⟨o, h, 1, 1⟩ L) = (ofL o L).take i ++ ⟨o, h, 1, 1⟩ :: (ofL o L).drop i) := Lib.hid (of_ins (b := ⟨o, h, 1, 1⟩) HW.out.srt HLB.out HNF.out).symm
      have HO1 : Hid (OwnK bo4 47 w1 0 v' (ofL o (putL ⟨o, h, 1, 1⟩ L))) := Lib.hid (by rw [HOL.out]; exact ho1)
      have hSo := HS.out.own o HO.out
      have hp1 := (HG1.out.block p (Array.getElem?_eq_some_iff.1 HP.out).1 (fun e => led_ne HP.out hSo.1 e.symm)).trans HP.out
      have hown1 := ownsMap_keep HOW.out (HG1.out.block b HOW.out.lt (fun e => own_ne_map HOW.out hSo.1 e.symm))
      refine ⟨_, rfl, cell_of_row w1 p 0 _ _ _ hp1, ?_⟩
      simp only [Act.put, List.setIfInBounds_toArray, List.set_cons_zero, List.set_cons_succ]
      refine wpAnyH_done (by kernel_rfl) ?_ _
      obtain ⟨A1, n1, cap1, rfl, hx1⟩ := HO1.out.shape
      clear ho1 hg1 hb1 hp1 hx1 HIN HBW HNB HZW HOL
      simp only [atEnd]
      go_wp2_with (first | (at_mapUpdate; refine wpList_mapUpdate_own _ rfl _ _ _ 52 rfl 3 26 law3 Try.underlying52 tk b _ D rfl hown1 HSZ.out _ _ _ rfl rfl (key3 HO.out) (.held (.slice A1 n1 cap1)) [] rfl ?_; intro w2 hown2 hg2))
      go_ret
      have hk2 : OwnK bo4 47 w2 0 (.slice A1 n1 cap1) (ofL o (putL ⟨o, h, 1, 1⟩ L)) := OwnK.kept HO1.out hg2 (.inr (own_ne_map hown1 HO1.out))
      have hnz : ofL o (putL ⟨o, h, 1, 1⟩ L) ≠ [] := fun e => by
        have : (⟨o, h, 1, 1⟩ : Bo) ∈ ofL o (putL ⟨o, h, 1, 1⟩ L) := mem_of.2 ⟨mem_put.2 (.inl rfl), rfl⟩
        rw [e] at this
        cases this
      have U := Led.upd (L' := putL ⟨o, h, 1, 1⟩ L) HCP.out HP.out HCB.out HOW.out HS.out HO.out HG1.out hg2 hown2 hk2 HB1.out (fun o' hne => of_put_other hne) (by rw [Maps.has_put_same hown1.isMap (isKey3 HO.out)]; simp [hnz]) (Maps.atKey_put_same hown1.isMap (isKey3 HO.out) _ _) (fun o' hne => ⟨Maps.has_put_other (lit_ne hne) _, Maps.atKey_put_other (lit_ne hne) _ _⟩) (fun x hx => by
        rcases mem_put.1 hx with rfl | ⟨h1, _⟩
        · exact HO.out
        · exact HW.out.ri x h1)
      rw [HCN.out]
      exact LdE.later HKX.out ⟨rfl, U⟩
  · obtain ⟨h0, HNO⟩ := HM2.out rfl
    subst h0
    have HNO := Lib.hid HNO
    clear HM1 HM2
    go_enter Try.func16, Try.ntmps16
    go_wp2_with fail
    refine HL.out.mono ?_
    rintro e w0 ⟨rfl, rfl⟩
    go_wp2_with fail
    refine HF.out.mono ?_
    rintro e wx ⟨i, f, rfl, hlb, hf, hb⟩
    have hK : Kept c (k + 1) w wx := Kept.ofBelow hb
    have hpl : p < w.heap.size := (Array.getElem?_eq_some_iff.1 HPW.out).1
    have hbl := HOWW.out.lt
    have HS : Hid (Slm wx (rc c w.heap.size k) k D sl L) := Lib.hid (HSW.out.kept hK (by omega) (fun g hg => rc_old hg))
    have HP := Lib.hid ((hb.block p hpl).trans HPW.out)
    have HOW := Lib.hid (own_map (ownsMap_keep HOWW.out (hb.block b hbl)))
    have HCP : Hid (rc c w.heap.size k p = k) := Lib.hid (by rw [rc_old hpl]; exact HCPW.out)
    have HCB : Hid (rc c w.heap.size k b = k) := Lib.hid (by rw [rc_old hbl]; exact HCBW.out)
    have HKX : Hid (Kept c k w wx) := Lib.hid (Kept.ofBelow hb)
    have HLB := Lib.hid hlb
    have cf := cell_of_row wx p 0 _ _ _ HP.out
    have hen := eql_some b wx
    have hf0 : f = false := (found_none HW.out.srt hlb hf).1 HNO.out
    subst hf0
    have HNF := Lib.hid (nf_of hf)
    have HCN := Lib.hid (cnt_none (has_no HW.out.srt hlb hf))
    clear hlb hf hb HF HL hr c0 hK hpl hbl
    go_wp2_with fail
    refine wp_region_headed 13 (fun W => W.cell? ⟨p, 0, none⟩ = some (.map (some b))) (by kernel_rfl) (by kernel_rfl) ?_
    simp only [List.take_succ_cons, List.take_zero, List.drop_succ_cons, List.drop_zero]
    have HD0 := Lib.hid (below_drewN (Below.refl wx.heap.size wx) 1)
    have hHeld : (wx.drewN 1).cell? ⟨p, 0, none⟩ = some (.map (some b)) := cell_of_row wx p 0 _ _ _ HP.out
    refine held_take (i := 0) (d := 63) (v := .pointer (some ⟨p, 0, none⟩)) rfl rfl (by kernel_rfl) (by kernel_rfl) (by kernel_rfl) (fun _ _ _ h => h) (by rfl) (fun W _ => run_move_is (.tmp 0) rfl rfl W) hHeld ?_
    simp only [Act.put, List.setIfInBounds_toArray, List.set_cons_zero, List.set_cons_succ]
    refine held_take (i := 1) (d := 64) (v := .pointer (some ⟨p, 0, none⟩)) rfl rfl (by kernel_rfl) (by kernel_rfl) (by kernel_rfl) (fun _ _ _ h => h) (by rfl) (fun W _ => by go_simp) hHeld ?_
    simp only [Act.put, List.setIfInBounds_toArray, List.set_cons_zero, List.set_cons_succ]
    refine held_take (i := 2) (d := 65) (v := .pointer (some ⟨p, 0, none⟩)) rfl rfl (by kernel_rfl) (by kernel_rfl) (by kernel_rfl) (fun _ _ _ h => h) (by rfl) (fun W _ => by go_simp) hHeld ?_
    simp only [Act.put, List.setIfInBounds_toArray, List.set_cons_zero, List.set_cons_succ]
    refine held_take (i := 3) (d := 66) (v := .map (some b)) rfl rfl (by kernel_rfl) (by kernel_rfl) (by kernel_rfl) (fun _ _ _ h => h) (by rfl) (fun W hS => by go_simp) hHeld ?_
    simp only [Act.put, List.setIfInBounds_toArray, List.set_cons_zero, List.set_cons_succ]
    refine held_take (i := 4) (d := 67) (v := .int .i64 o) rfl rfl (by kernel_rfl) (by kernel_rfl) (by kernel_rfl) (fun _ _ _ h => h) (by rfl) (fun W _ => run_move_is (.tmp 1) rfl rfl W) hHeld ?_
    simp only [Act.put, List.setIfInBounds_toArray, List.set_cons_zero, List.set_cons_succ]
    refine held_take (i := 5) (d := 68) (v := .slice A 0 cap) rfl rfl (by kernel_rfl) (by kernel_rfl) (by kernel_rfl) (fun _ _ _ h => h) (by rfl) (fun W _ => run_move_is (.tmp 9) rfl rfl W) hHeld ?_
    simp only [Act.put, List.setIfInBounds_toArray, List.set_cons_zero, List.set_cons_succ]
    refine held_take (i := 6) (d := 69) (v := .int .i64 (i : Int)) rfl rfl (by kernel_rfl) (by kernel_rfl) (by kernel_rfl) (fun _ _ _ h => h) (by rfl) (fun W _ => run_move_is (.tmp 10) rfl rfl W) hHeld ?_
    simp only [Act.put, List.setIfInBounds_toArray, List.set_cons_zero, List.set_cons_succ]
    refine held_take (i := 7) (d := 70) (v := .int .i64 o) rfl rfl (by kernel_rfl) (by kernel_rfl) (by kernel_rfl) (fun _ _ _ h => h) (by rfl) (fun W _ => run_move_is (.tmp 1) rfl rfl W) hHeld ?_
    simp only [Act.put, List.setIfInBounds_toArray, List.set_cons_zero, List.set_cons_succ]
    refine held_take (i := 8) (d := 71) (v := .int .i64 h) rfl rfl (by kernel_rfl) (by kernel_rfl) (by kernel_rfl) (fun _ _ _ h => h) (by rfl) (fun W _ => run_move_is (.tmp 2) rfl rfl W) hHeld ?_
    simp only [Act.put, List.setIfInBounds_toArray, List.set_cons_zero, List.set_cons_succ]
    refine held_take (i := 9) (d := 72) (v := .int .i64 2) rfl rfl (by kernel_rfl) (by kernel_rfl) (by kernel_rfl) (fun _ _ _ h => h) (by rfl) (fun W _ => run_move_is (.tmp 3) rfl rfl W) hHeld ?_
    simp only [Act.put, List.setIfInBounds_toArray, List.set_cons_zero, List.set_cons_succ]
    refine held_take (i := 10) (d := 73) (v := .agg #[.int .i64 o, .int .i64 h, .int .i64 2, .int .i64 1]) rfl rfl (by kernel_rfl) (by kernel_rfl) (by kernel_rfl) (fun _ _ _ h => h) (by rfl) (fun W _ => by go_simp) hHeld ?_
    simp only [Act.put, List.setIfInBounds_toArray, List.set_cons_zero, List.set_cons_succ]
    refine held_one (i := 11) (by kernel_rfl) ?_
    have HBW : Hid (Below wx.heap.size wx ((wx.drewN 1).alloc (.cells #[.int .i64 o, .int .i64 h, .int .i64 2, .int .i64 1] 47))) := Lib.hid (HD0.out.alloc (Nat.le_refl _) _)
    have HNB : Hid (((wx.drewN 1).alloc (.cells #[.int .i64 o, .int .i64 h, .int .i64 2, .int .i64 1] 47)).heap[wx.heap.size]? = some (.cells #[.int .i64 o, .int .i64 h, .int .i64 2, .int .i64 1] 47 (0, 0))) := Lib.hid (heap_alloc_new (wx.drewN 1) _)
    have HZW : Hid (((wx.drewN 1).alloc (.cells #[.int .i64 o, .int .i64 h, .int .i64 2, .int .i64 1] 47)).heap.size = wx.heap.size + 1) := Lib.hid (by simp)
    refine held_make (d := 74) rfl rfl (by rfl) (by exact run_oneB (x := .tmp 73) rfl rfl _) ⟨cell_of_row _ p 0 _ _ _ ((HBW.out.block p (Array.getElem?_eq_some_iff.1 HP.out).1).trans HP.out), ?_⟩
    clear hHeld HD0
    simp only [Act.put, List.setIfInBounds_toArray, List.set_cons_zero, List.set_cons_succ]
    have HIN := Lib.hid (insert1_any (sl o) (ofL o L) 0 i wx.heap.size ⟨o, h, 2, 1⟩ _ ((HS.out.own o HO.out).1.below HBW.out) HLB.out.le (by have := HW.out.len; have := of_len (o := o) (L := L); omega) (Nat.zero_le _) HNB.out (fun e => Nat.lt_irrefl _ ((HS.out.own o HO.out).1.ge e).2))
    rw [HE0.out] at HIN
    refine held_one (i := 12) (by kernel_rfl) ?_
    refine held_callX (d := 75) rfl rfl (by rfl) rfl (by kernel_rfl) Try.func36 (by kernel_rfl) HIN.out ?_
    rintro e w1 ⟨v', rfl, ho1, hg1, hb1⟩
    have HG1 : Hid (wx.grownBy w1 (sl o).ownBlock) := Lib.hid (by rw [HE0.out]; exact grown_trans (grown_below HBW.out _) hg1)
    have HB1 : Hid (v'.ownBlock = (sl o).ownBlock ∨ ∀ g, v'.ownBlock = some g → wx.heap.size ≤ g) := Lib.hid (by rw [HE0.out]; exact hb1.imp id (fun e g hg => by rw [e, HZW.out] at hg; have := Option.some.inj hg; omega))
    have HOL : Hid (ofL o (putL ⟨o, h, 2, 1⟩ L) = (ofL o L).take i ++ ⟨o, h, 2, 1⟩ :: (ofL o L).drop i) := Lib.hid (of_ins (b := ⟨o, h, 2, 1⟩) HW.out.srt HLB.out HNF.out).symm
    have HO1 : Hid (OwnK bo4 47 w1 0 v' (ofL o (putL ⟨o, h, 2, 1⟩ L))) := Lib.hid (by rw [HOL.out]; exact ho1)
    have hSo := HS.out.own o HO.out
    have hp1 := (HG1.out.block p (Array.getElem?_eq_some_iff.1 HP.out).1 (fun e => led_ne HP.out hSo.1 e.symm)).trans HP.out
    have hown1 := ownsMap_keep HOW.out (HG1.out.block b HOW.out.lt (fun e => own_ne_map HOW.out hSo.1 e.symm))
    refine ⟨_, rfl, cell_of_row w1 p 0 _ _ _ hp1, ?_⟩
    simp only [Act.put, List.setIfInBounds_toArray, List.set_cons_zero, List.set_cons_succ]
    refine wpAnyH_done (by kernel_rfl) ?_ _
    obtain ⟨A1, n1, cap1, rfl, hx1⟩ := HO1.out.shape
    clear ho1 hg1 hb1 hp1 hx1 HIN HBW HNB HZW HOL
    simp only [atEnd]
    go_wp2_with (first | (at_mapUpdate; refine wpList_mapUpdate_own _ rfl _ _ _ 52 rfl 3 26 law3 Try.underlying52 tk b _ D rfl hown1 HSZ.out _ _ _ rfl rfl (key3 HO.out) (.held (.slice A1 n1 cap1)) [] rfl ?_; intro w2 hown2 hg2))
    go_ret
    have hk2 : OwnK bo4 47 w2 0 (.slice A1 n1 cap1) (ofL o (putL ⟨o, h, 2, 1⟩ L)) := OwnK.kept HO1.out hg2 (.inr (own_ne_map hown1 HO1.out))
    have hnz : ofL o (putL ⟨o, h, 2, 1⟩ L) ≠ [] := fun e => by
      have : (⟨o, h, 2, 1⟩ : Bo) ∈ ofL o (putL ⟨o, h, 2, 1⟩ L) := mem_of.2 ⟨mem_put.2 (.inl rfl), rfl⟩
      rw [e] at this
      cases this
    have U := Led.upd (L' := putL ⟨o, h, 2, 1⟩ L) HCP.out HP.out HCB.out HOW.out HS.out HO.out HG1.out hg2 hown2 hk2 HB1.out (fun o' hne => of_put_other hne) (by rw [Maps.has_put_same hown1.isMap (isKey3 HO.out)]; simp [hnz]) (Maps.atKey_put_same hown1.isMap (isKey3 HO.out) _ _) (fun o' hne => ⟨Maps.has_put_other (lit_ne hne) _, Maps.atKey_put_other (lit_ne hne) _ _⟩) (fun x hx => by
      rcases mem_put.1 hx with rfl | ⟨h1, _⟩
      · exact HO.out
      · exact HW.out.ri x h1)
    rw [HCN.out]
    exact LdE.later HKX.out ⟨rfl, U⟩
theorem lend_any (H : Led w c k p L) (hW : Wl N L) (hN : N ≤ 100000) (ho : Ri o) : Calls Try.prog 16 #[.pointer (some ⟨p, 0, none⟩), .int .i64 o, .int .i64 h, .int .i64 m] w (LdE w c k p (.int .i64 (lendE o m L)) (lendL o h m L)) := by
  have stay : ∀ (r : Int), Calls Try.prog 16 #[.pointer (some ⟨p, 0, none⟩), .int .i64 o, .int .i64 h, .int .i64 m] w (fun e w' => e = .returned (.int .i64 r) ∧ w = w') →
      Calls Try.prog 16 #[.pointer (some ⟨p, 0, none⟩), .int .i64 o, .int .i64 h, .int .i64 m] w (LdE w c k p (.int .i64 r) L) := fun r hc => hc.mono fun e w' h1 => by
    obtain ⟨rfl, rfl⟩ := h1
    exact ⟨rfl, H.later (Below.refl _ _), Kept.refl⟩
  by_cases hm : m = 1 ∨ m = 2
  · by_cases hx : md o L = 2 ∨ (m = 2 ∧ md o L ≠ 0)
    · have e1 : lendE o m L = 14 := by unfold lendE; rw [if_neg (by omega), if_pos hx]
      unfold lendL
      rw [e1, if_neg (by omega)]
      exact stay 14 (lend_busy H hW hN ho hm hx)
    · have e1 : lendE o m L = 0 := by unfold lendE; rw [if_neg (by omega), if_neg hx]
      unfold lendL
      rw [e1, if_pos rfl]
      obtain ⟨hcp, mv, hp, hmv⟩ := H
      rcases hmv with ⟨rfl, rfl⟩ | ⟨b, rfl, hcb, n, D, sl, hown, S⟩
      · exact lend_first hcp hp ho hm
      · exact lend_more hcp hp hcb hown S hW hN ho hm hx
  · have e1 : lendE o m L = 1 := by unfold lendE; rw [if_pos hm]
    unfold lendL
    rw [e1, if_neg (by omega)]
    exact stay 1 (lend_bad hm)
end
end Go.Proofs.Ytmmlelmkgnhofaa
