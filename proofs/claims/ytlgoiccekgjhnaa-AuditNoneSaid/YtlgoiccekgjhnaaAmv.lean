/-
  What the maker's Events returns: valid events, at most so many. Conditions: the tape holds at most nine hundred numbers of 16 bits.
-/
import Derived.Test.YtlgoiccekgjhnaaAmb
namespace Go.Proofs.Ytlgoiccekgjhnaa
open Go.ChangeShapes Go.WideShapes Go.ChangeAt Go.RowKit
set_option linter.unusedVariables false
set_option linter.unusedSimpArgs false
set_option maxHeartbeats 4000000
set_option maxRecDepth 100000

theorem TS.belowB {w w' : World} {b i B : Nat} {L : List Int} (h : TS w b L i) (hb : Below B w w') (hB : b < B) : TS w' b L i := by
  obtain ⟨A, m, c, h1, h2⟩ := h
  exact ⟨A, m, c, (hb.block b hB).trans h1, h2.below (hb.mono (by omega))⟩
theorem Oth.belowB {w w' w'' : World} {b : Nat} (h : Oth b w w') (hb : Below w.heap.size w' w'') : Oth b w w'' :=
  ⟨hb.os.trans h.os, hb.tape.trans h.tape, hb.output.trans h.output, Nat.le_trans h.size hb.size, fun k hk hne => (hb.block k hk).trans (h.block k hk hne)⟩
theorem Oth.grown {w w' : World} {b : Nat} (h : Oth b w w') : w.grownBy w' (some b) := ⟨h.os, h.tape, h.output, h.size, fun k hk hne => h.block k hk (fun e => hne (by rw [e]))⟩
theorem more_any (b i : Nat) (L : List Int) (w : World) (h : TS w b L i) (hL : L.length ≤ 100000) (hi : i ≤ 1000000) :
    Calls Try.prog 52 #[.pointer (some ⟨b, 0, none⟩)] w (Says w (.bool (decide (i < L.length)))) := by
  obtain ⟨A, m, c, h, hr⟩ := h
  have hlen := hr.len
  rw [iv_len] at hlen
  have hblk : w.heap[b]? = some (.cells #[.slice A m c, .int .i64 i] 80 (0, 0)) := h
  have HL : Hid (∀ W, Below w.heap.size w W → W.cell? ⟨b, 0, none⟩ = some (.slice A m c) ∧ W.cell? ⟨b, 1, none⟩ = some (.int .i64 i)) := Lib.hid (fun W hW => by
    have h1 := (hW.block b (Array.getElem?_eq_some_iff.1 hblk).1).trans hblk
    exact ⟨cell_of_row W b 0 _ _ _ h1, cell_of_row W b 1 _ _ _ h1⟩)
  have hd : decide (i < L.length) = decide ((i : Int) < (m : Int)) := by
    by_cases hlt : i < L.length
    · rw [decide_eq_true hlt, decide_eq_true (by omega)]
    · rw [decide_eq_false hlt, decide_eq_false (by omega)]
  rw [hd]
  have HD0 : Hid (Below w.heap.size w w.drew) := Lib.hid (below_drewN (Below.refl _ w) 1)
  clear hr h hd hblk
  go_enter Try.func52, Try.ntmps52
  go_wp2
  refine wp_region_hand 11 (fun W => Below w.heap.size w W) (by kernel_rfl) (by kernel_rfl) ?_
  rw [show Array.replicate 11 false = #[false, false, false, false, false, false, false, false, false, false, false] from rfl]
  have hHeld := HD0.out
  refine held_take (i := 0) (d := 3) (v := .pointer (some ⟨b, 0, none⟩)) rfl rfl (by kernel_rfl) (by kernel_rfl) (by kernel_rfl) (fun _ _ _ h => h) (by rfl) (fun W _ => run_move_is (.tmp 0) rfl rfl W) hHeld ?_
  simp only [Act.put, List.setIfInBounds_toArray, List.set_cons_zero, List.set_cons_succ]
  refine held_take (i := 1) (d := 4) (v := .pointer (some ⟨b, 0, none⟩)) rfl rfl (by kernel_rfl) (by kernel_rfl) (by kernel_rfl) (fun _ _ _ h => h) (by rfl) (fun W _ => by go_simp) hHeld ?_
  simp only [Act.put, List.setIfInBounds_toArray, List.set_cons_zero, List.set_cons_succ]
  refine held_take (i := 2) (d := 5) (v := .pointer (some ⟨b, 1, none⟩)) rfl rfl (by kernel_rfl) (by kernel_rfl) (by kernel_rfl) (fun _ _ _ h => h) (by rfl) (fun W _ => by go_simp) hHeld ?_
  simp only [Act.put, List.setIfInBounds_toArray, List.set_cons_zero, List.set_cons_succ]
  refine held_take (i := 3) (d := 6) (v := .int .i64 (i : Int)) rfl rfl (by kernel_rfl) (by kernel_rfl) (by kernel_rfl) (fun _ _ _ h => h) (by rfl) (fun W hW => by have q := (HL.out W hW).2; go_simp) hHeld ?_
  simp only [Act.put, List.setIfInBounds_toArray, List.set_cons_zero, List.set_cons_succ]
  refine held_take (i := 4) (d := 7) (v := .pointer (some ⟨b, 0, none⟩)) rfl rfl (by kernel_rfl) (by kernel_rfl) (by kernel_rfl) (fun _ _ _ h => h) (by rfl) (fun W _ => run_move_is (.tmp 0) rfl rfl W) hHeld ?_
  simp only [Act.put, List.setIfInBounds_toArray, List.set_cons_zero, List.set_cons_succ]
  refine held_take (i := 5) (d := 8) (v := .pointer (some ⟨b, 0, none⟩)) rfl rfl (by kernel_rfl) (by kernel_rfl) (by kernel_rfl) (fun _ _ _ h => h) (by rfl) (fun W _ => by go_simp) hHeld ?_
  simp only [Act.put, List.setIfInBounds_toArray, List.set_cons_zero, List.set_cons_succ]
  refine held_take (i := 6) (d := 9) (v := .pointer (some ⟨b, 0, none⟩)) rfl rfl (by kernel_rfl) (by kernel_rfl) (by kernel_rfl) (fun _ _ _ h => h) (by rfl) (fun W _ => by go_simp) hHeld ?_
  simp only [Act.put, List.setIfInBounds_toArray, List.set_cons_zero, List.set_cons_succ]
  refine held_take (i := 7) (d := 10) (v := .slice A m c) rfl rfl (by kernel_rfl) (by kernel_rfl) (by kernel_rfl) (fun _ _ _ h => h) (by rfl) (fun W hW => by have q := (HL.out W hW).1; go_simp) hHeld ?_
  simp only [Act.put, List.setIfInBounds_toArray, List.set_cons_zero, List.set_cons_succ]
  refine held_take (i := 8) (d := 11) (v := .int .i64 (m : Int)) rfl rfl (by kernel_rfl) (by kernel_rfl) (by kernel_rfl) (fun _ _ _ h => h) (by rfl) (fun W _ => by go_simp) hHeld ?_
  simp only [Act.put, List.setIfInBounds_toArray, List.set_cons_zero, List.set_cons_succ]
  refine held_take (i := 9) (d := 12) (v := .bool (decide ((i : Int) < (m : Int)))) rfl rfl (by kernel_rfl) (by kernel_rfl) (by kernel_rfl) (fun _ _ _ h => h) (by rfl) (fun W _ => by go_simp) hHeld ?_
  simp only [Act.put, List.setIfInBounds_toArray, List.set_cons_zero, List.set_cons_succ]
  refine held_take (i := 10) (d := 2) (v := .bool (decide ((i : Int) < (m : Int)))) rfl rfl (by kernel_rfl) (by kernel_rfl) (by kernel_rfl) (fun _ _ _ h => h) (by rfl) (fun W _ => by go_simp) hHeld ?_
  simp only [Act.put, List.setIfInBounds_toArray, List.set_cons_zero, List.set_cons_succ]
  refine wpAnyH_done (by kernel_rfl) ?_ _
  clear hHeld
  clear HL
  go_wp2
  go_ret
  exact ⟨rfl, HD0.out⟩
/-- Plugins up to three. -/
def Low3 (l : List Ev5) : Prop := ∀ x ∈ l, x.p ≤ 3
theorem Low3.app {l m : List Ev5} (h : Low3 l) (h' : Low3 m) : Low3 (l ++ m) := fun x hx => (List.mem_append.1 hx).elim (h x) (h' x)
theorem Low3.one {x : Ev5} (h : x.p ≤ 3) : Low3 [x] := fun y hy => by
  rw [List.mem_singleton] at hy
  rw [hy]; exact h
/-- Valid events in a row of the call's own, and the tape somewhere. -/
def EvsE (w : World) (b : Nat) (L : List Int) (most : Nat) (e : Ending) (w' : World) : Prop :=
  ∃ v l j, e = .returned v ∧ (Goods l ∧ Low3 l) ∧ l.length ≤ most ∧ OwnK ev5 27 w' w.heap.size v l ∧ TS w' b L j ∧ Oth b w w'
theorem events_any (b i most : Nat) (L : List Int) (w : World) (h : TS w b L i) (hf : Fit .u16 L) (hL : L.length ≤ 900) (hi : i ≤ 900) (hm : most ≤ 900) :
    Calls Try.prog 20 #[.pointer (some ⟨b, 0, none⟩), .int .i64 most] w (EvsE w b L most) := by
  obtain ⟨ie, hie, hz0, hz1, hz2⟩ := info_parts infoE
  have hlt := h.lt
  have HT0 := Lib.hid h
  have HF := Lib.hid hf
  have HEE : Hid (∀ (v : Value) (l : List Ev5) (j : Nat) (W : World), Goods l ∧ Low3 l → l.length ≤ most → OwnK ev5 27 W w.heap.size v l → TS W b L j → Oth b w W → EvsE w b L most (.returned v) W) := Lib.hid (fun v l j W h1 h2 h3 h4 h5 => ⟨v, l, j, rfl, h1, h2, h3, h4, h5⟩)
  clear h hf
  go_enter Try.func20, Try.ntmps20
  go_wp2
  go_loopw [5] (fun ov wr => ∃ A n c, ov = .slice A n c ∧ n ≤ most ∧ ∃ j : Nat, j ≤ 1000 ∧ Hid (∃ l, l.length = n ∧ (Goods l ∧ Low3 l) ∧ OwnK ev5 27 wr w.heap.size (.slice A n c) l ∧ TS wr b L j ∧ Oth b w wr)) (fun ov _ => most - (match ov with | .slice _ m _ => m | _ => 0))
  case atStart => exact ⟨none, 0, 0, rfl, Nat.zero_le _, i, by omega, Lib.hid ⟨[], rfl, ⟨Goods.nil, fun x hx => by cases hx⟩, OwnK.nil _ _ _ _, HT0.out, Oth.refl⟩⟩
  case round =>
    obtain ⟨A, n, c, rfl, hn, j, hj, hh⟩ := hrel
    obtain ⟨l, hll, hgl, hol, htl, hot⟩ := hh.out
    have HG := Lib.hid hgl
    have HO := Lib.hid hol
    have HT := Lib.hid htl
    have HOT := Lib.hid hot
    have HMR := Lib.hid (more_any b j L wr htl (by omega) (by omega))
    clear hh hgl hol htl hot HT0
    by_cases hjl : j < L.length
    · rw [decide_eq_true hjl] at HMR
      by_cases hnm : n < most
      · have hnm' : (n : Int) < (most : Int) := by omega
        go_wp2_with fail
        refine HMR.out.mono ?_
        rintro e w1 ⟨rfl, hb1⟩
        have HT1 := Lib.hid (HT.out.go hb1)
        have HOT1 := Lib.hid (HOT.out.trans (Oth.ofBelow hb1))
        have HO1 := Lib.hid (HO.out.below hb1)
        have HEV := Lib.hid (event_any b j L w1 HT1.out HF.out (by omega))
        clear HMR hb1 HT HOT HO
        go_wp2_with fail
        refine HEV.out.mono ?_
        rintro e w2 ⟨p, o, hv, av, er, j2, ⟨hc, hp3⟩, hh2, ha2, hj2, rfl, ht2, ho2⟩
        have hlb : b < w.heap.size := hlt
        have HGX : Hid (Good ⟨p, o, hv, av, er⟩) := Lib.hid ⟨hc, hh2, ha2⟩
        have HP3 : Hid (Low3 [⟨p, o, hv, av, er⟩]) := Lib.hid (Low3.one hp3)
        have HT2 := Lib.hid ht2
        have HOT2 := Lib.hid (HOT1.out.trans ho2)
        have HO2 : Hid (OwnK ev5 27 w2 w.heap.size (.slice A n c) l) := Lib.hid (HO1.out.kept ho2.grown (.inr fun e => by
          have := (HO1.out.ge e).1
          omega))
        have HN2 := Lib.hid (Kws.one_ w2 ⟨p, o, hv, av, er⟩)
        clear hc hp3 hh2 ha2 ht2 ho2 HEV HT1 HOT1 HO1
        go_wp2_with (at_builtin; go_must (refine wpList_appK _ rfl (.tmp 14) (.tmp 17) 35 rfl Try.underlying35 hie hz0 rfl hz1 (by omega) (HO2.out.alloc _) rfl HN2.out rfl (by omega) (by have := HOT2.out.size; simp; omega) ?_); intro v3 w3 ho3 hb3 hg3)
        have hb3' : Below w.heap.size w2 w3 := ((Below.refl _ _).alloc HOT2.out.size _).trans hb3
        have HF3 : Hid (∃ l', l'.length = n + 1 ∧ (Goods l' ∧ Low3 l') ∧ OwnK ev5 27 w3 w.heap.size v3 l' ∧ TS w3 b L j2 ∧ Oth b w w3) := Lib.hid ⟨_, by simp [hll], ⟨HG.out.1.app (Goods.one HGX.out), HG.out.2.app HP3.out⟩, ho3, HT2.out.belowB hb3' hlb, HOT2.out.belowB hb3'⟩
        obtain ⟨A3, n3, c3, rfl, hk3⟩ := ho3.shape
        have hn3 : n3 = n + 1 := by
          have h1 := hk3.len
          rw [List.length_append] at h1
          simp only [List.length_cons, List.length_nil] at h1
          omega
        subst hn3
        clear ho3 hb3 hg3 hk3 hb3' HG HGX HT2 HOT2 HO2 HN2
        go_wp2
        go_roundw
        case rel => exact ⟨A3, n + 1, c3, rfl, by omega, j2, by omega, HF3⟩
        case measure => simp only []; omega
      · have hnm' : ¬ (n : Int) < (most : Int) := by omega
        go_wp2_with fail
        refine HMR.out.mono ?_
        rintro e w1 ⟨rfl, hb1⟩
        have HF3 := Lib.hid (HEE.out (.slice A n c) l j w1 HG.out (by omega) (HO.out.below hb1) (HT.out.go hb1) (HOT.out.trans (Oth.ofBelow hb1)))
        clear HMR HG HO HT HOT hb1
        go_wp2
        go_ret
        exact HF3.out
    · rw [decide_eq_false hjl] at HMR
      go_wp2_with fail
      refine HMR.out.mono ?_
      rintro e w1 ⟨rfl, hb1⟩
      have HF3 := Lib.hid (HEE.out (.slice A n c) l j w1 HG.out (by omega) (HO.out.below hb1) (HT.out.go hb1) (HOT.out.trans (Oth.ofBelow hb1)))
      clear HMR HG HO HT HOT hb1
      go_wp2
      go_ret
      exact HF3.out
end Go.Proofs.Ytlgoiccekgjhnaa
