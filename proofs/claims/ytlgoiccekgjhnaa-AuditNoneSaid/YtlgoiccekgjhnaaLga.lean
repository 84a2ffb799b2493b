/-
  Contract of the landed log's Append. Conditions: at most a thousand records; the event's words are words.
-/
import Derived.Test.YtlgoiccekgjhnaaLgm
import Derived.Test.YtlgoiccekgjhnaaAme
namespace Go.Proofs.Ytlgoiccekgjhnaa
open Go.ChangeShapes Go.WideShapes Go.ChangeAt Go.RowKit Go.Maps
set_option linter.unusedVariables false
set_option linter.unusedSimpArgs false
set_option maxHeartbeats 4000000
set_option maxRecDepth 100000

theorem OwnB.keptC {w w' : World} {c : Nat → Nat} {k base : Nat} {v : Value} {l : List Int} (h : OwnB w base v l) (hk : Kept c k w w') (hne : ∀ g, v.ownBlock = some g → c g ≠ k) : OwnB w' base v l := by
  refine ⟨h.1, ?_⟩
  rcases h.2 with h0 | ⟨g, cap, cur, rfl, hbg, hg, rest⟩
  · exact .inl h0
  · exact .inr ⟨g, cap, cur, rfl, hbg, (hk.block g (Array.getElem?_eq_some_iff.1 hg).1 (hne g rfl)).trans hg, rest⟩
/-- A log on the way of an append: the box with the event and the event's bytes are of another colour. -/
structure ApS (w : World) (c : Nat → Nat) (k p : Nat) (cap : Int) (A : Option Addr) (n cp : Nat) (last : Int) (mr mm : Option Nat) (L : List Ev5) (N1 N2 : Nat) (f g : Int → Nat) (x : Ev5) (v : Value) (W : World) (d : Nat → Nat) : Prop where
  lr : LgR W d k p cap A n cp last mr mm L N1 N2 f g
  old : ∀ g, g < w.heap.size → d g = c g
  kept : Kept c k w W
  box : EvB W w.heap.size x.p x.o x.h x.a x.e
  boxc : d w.heap.size ≠ k
  enc : OwnB W w.heap.size v (eo x)
  encc : ∀ g, v.ownBlock = some g → d g ≠ k
section
variable {w W W' w1 Z : World} {c d : Nat → Nat} {k p b : Nat} {cap last : Int} {A A' : Option Addr} {n cp n' cp' : Nat} {mr mm : Option Nat} {L : List Ev5} {M : List Int} {N1 N2 : Nat} {f f' g : Int → Nat} {x : Ev5} {v : Value}
theorem ApS.go (S : ApS w c k p cap A n cp last mr mm L N1 N2 f g x v W d) (hb : Below W.heap.size W W') : ApS w c k p cap A n cp last mr mm L N1 N2 f g x v W' d :=
  ⟨S.lr.go hb (fun _ _ => rfl), S.old, S.kept.trans (Kept.ofBelow hb), S.box.go hb, S.boxc, S.enc.below hb, S.encc⟩
theorem ApS.setLast (S : ApS w c k p cap A n cp last mr mm L N1 N2 f g x v W d) (e : Int) : ApS w c k p cap A n cp e mr mm L N1 N2 f g x v (W.setCell ⟨p, 2, none⟩ (.int .u64 e)) d := by
  obtain ⟨h1, h2⟩ := S.lr.setLast e
  refine ⟨h1, S.old, S.kept.then S.old h2, ?_, S.boxc, S.enc.keptC h2 S.encc, S.encc⟩
  exact (h2.block _ S.box.lt S.boxc).trans S.box
theorem ApS.setRec {N1' : Nat} (S : ApS w c k p cap A n cp last mr mm L N1 N2 f g x v W d) (hm : Mpc w1 (rc d W.heap.size k) k N1' (some b) f') (hg : W.grownBy w1 mr) (hv : mr = some b ∨ (mr = none ∧ W.heap.size ≤ b)) :
    ApS w c k p cap A n cp last (some b) mm L N1' N2 f' g x v (w1.setCell ⟨p, 3, none⟩ (.map (some b))) (rc d W.heap.size k) := by
  obtain ⟨h1, h2⟩ := S.lr.setRec hm hg hv
  have hs := S.kept.size
  have hx := S.box.lt
  refine ⟨h1, fun g hg => by rw [rc_old (by omega)]; exact S.old g hg, S.kept.then S.old h2, ?_, ?_, S.enc.keptC h2 S.encc, fun g hg => ?_⟩
  · exact (h2.block _ S.box.lt S.boxc).trans S.box
  · rw [rc_old hx]; exact S.boxc
  · obtain ⟨A1, n1, c1, rfl, hb⟩ := S.enc.shape
    have h3 : g < W.heap.size := (World.ownsRow.lt S.enc g hg).2
    rw [rc_old h3]; exact S.encc g hg
theorem Mpc.recol {c1 c2 : Nat → Nat} {mv : Option Nat} (h : Mpc w c1 k N1 mv f) (hc : ∀ g, c1 g = k → c2 g = k) : Mpc w c2 k N1 mv f := by
  rcases h with h | ⟨b, e, hcb, D, h1, h2⟩
  · exact .inl h
  · exact .inr ⟨b, e, hc b hcb, D, h1, h2⟩
theorem LgR.recol {c1 c2 : Nat → Nat} (H : LgR w c1 k p cap A n cp last mr mm L N1 N2 f g) (hc : ∀ g, c1 g = k → c2 g = k) : LgR w c2 k p cap A n cp last mr mm L N1 N2 f g :=
  ⟨hc p H.col, H.blk, ⟨H.row.1, fun g e => hc g (H.row.2 g e)⟩, H.rec_.recol hc, H.mis.recol hc, H.two⟩
/-- The end: the row with one more event is stored. -/
theorem ApS.fin (S : ApS w c k p cap A n cp last mr mm L N1 M.length f (msN M) x v W d) (hG : Goods (L ++ [x])) (hl : last = lgD start (L ++ [x])) (hN : N1 = (L ++ [x]).length) (hf : ∀ z, f z = rcN (L ++ [x]) z)
    (hz : Below W.heap.size W Z) (ho : OwnK ev5 27 w1 0 (.slice A' n' cp') (L ++ [x])) (hg : Z.grownBy w1 (Value.slice A n cp).ownBlock) (hv : (Value.slice A' n' cp').ownBlock = (Value.slice A n cp).ownBlock ∨ (Value.slice A' n' cp').ownBlock = some Z.heap.size) :
    LwE w c k p cap (.int .i64 0) (L ++ [x]) M (.returned (.int .i64 0)) (w1.setCell ⟨p, 1, none⟩ (.slice A' n' cp')) := by
  have S1 := S.go hz
  obtain ⟨h1, h2⟩ := S1.lr.setRow ho hg hv
  have hs := S1.kept.size
  subst hN hl
  have h3 := h1.recol (c2 := rc c w.heap.size k) (fun g e => by
    rcases Nat.lt_or_ge g w.heap.size with h | h
    · rw [rc_old (by omega)] at e
      rw [rc_old h, ← S1.old g h]
      exact e
    · exact rc_new h)
  exact ⟨rfl, ⟨hG, A', n', cp', _, mr, mm, fun _ => rfl, h3.col, h3.blk, h3.row, h3.rec_.same hf, h3.mis, h3.two⟩, S1.kept.then S1.old h2⟩
end
theorem lgD_bd (L : List Ev5) : 0 ≤ lgD start L ∧ lgD start L < 18446744073709551616 := lst_bd start_bd.1 start_bd.2 _
theorem rcN_bump {L : List Ev5} {x : Ev5} (h : auc x) (z : Int) : bump (rcN L) x.p z = rcN (L ++ [x]) z := by
  rw [rcN_app, rcN_one]
  by_cases e : z = x.p
  · subst e
    rw [bump_at, if_pos ⟨rfl, h⟩]
  · rw [bump_ne e, if_neg (fun h' => e h'.1.symm)]
    rfl
theorem rcN_stay {L : List Ev5} {x : Ev5} (h : ¬ auc x) (z : Int) : rcN L z = rcN (L ++ [x]) z := by
  rw [rcN_app, rcN_one, if_neg (fun h' => h h'.2)]
  rfl
theorem appendL_any {w : World} {c : Nat → Nat} {k p : Nat} {cap : Int} {L : List Ev5} {M : List Int} (x : Ev5) (H : Lgl w c k p cap L M) (hn : L.length ≤ 1000) (hw : (0 ≤ x.h ∧ x.h < 18446744073709551616) ∧ 0 ≤ x.a ∧ x.a < 18446744073709551616) :
    Calls Try.prog 15 #[.pointer (some ⟨p, 0, none⟩), .agg #[.int .i64 x.p, .int .i64 x.o, .int .u64 x.h, .int .u64 x.a, .int .i64 x.e]] w (LwE w c k p cap (.int .i64 (apE cap L x)) (apL cap L x) M) := by
  obtain ⟨ie, hie, hz0, hz1, hz2⟩ := info_parts infoE
  have HIE := Lib.hid hie
  have HZE := Lib.hid hz0
  have HZ1 := Lib.hid hz1
  clear hie hz0 hz1
  have hb0 : Below w.heap.size w (w.alloc (.cells #[.int .i64 x.p, .int .i64 x.o, .int .u64 x.h, .int .u64 x.a, .int .i64 x.e] 27)) := (Below.refl _ _).alloc (Nat.le_refl _) _
  have HB0 := Lib.hid hb0
  have hlp := H.lt
  have hx0 : EvB (w.alloc (.cells #[.int .i64 x.p, .int .i64 x.o, .int .u64 x.h, .int .u64 x.a, .int .i64 x.e] 27)) w.heap.size x.p x.o x.h x.a x.e := EvB.new
  have HX0 := Lib.hid hx0
  obtain ⟨c0, c1, c2, c3, c4⟩ := hx0.cells
  have HEN := Lib.hid (encode_any x.p x.o x.h x.a x.e (w.alloc (.cells #[.int .i64 x.p, .int .i64 x.o, .int .u64 x.h, .int .u64 x.a, .int .i64 x.e] 27)) hw.1 hw.2)
  unfold EncE at HEN
  have HIO := Lib.hid (fun W => isOpL_any x.p x.o x.h x.a x.e W)
  have HAE : Hid (apE cap L x = if chkV x.p x.o x.e ≠ 0 then chkV x.p x.o x.e else if auc x ∧ cap ≤ rcN L x.p then 19 else 0) := Lib.hid rfl
  have HOK : Hid (apE cap L x = 0 → apL cap L x = L ++ [x]) := Lib.hid apL_ok
  have HNO : Hid (apE cap L x ≠ 0 → apL cap L x = L) := Lib.hid apL_no
  have HST : Hid (∀ (r : Value) W, Below w.heap.size w W → LwE w c k p cap r L M (.returned r) W) := Lib.hid (fun r W hW => H.stay hW r)
  have HRI : Hid (chkV x.p x.o x.e = 0 → Ri x.p) := Lib.hid (fun h => Ri.of (by have := chk_ok h; omega))
  have HGG : Hid (chkV x.p x.o x.e = 0 → Goods (L ++ [x])) := Lib.hid (fun h => H.1.app (Goods.one ⟨h, hw.1, hw.2⟩))
  have HRL : Hid (rcN L x.p ≤ L.length) := Lib.hid (rcN_le L x.p)
  have HED := Lib.hid (lgD_snoc start L x)
  have HEO : Hid (eo x = encO x.p x.o x.h x.a x.e) := Lib.hid rfl
  have HBU : Hid (auc x → ∀ z, bump (rcN L) x.p z = rcN (L ++ [x]) z) := Lib.hid (fun h z => rcN_bump h z)
  have HSY : Hid (¬ auc x → ∀ z, rcN L z = rcN (L ++ [x]) z) := Lib.hid (fun h z => rcN_stay h z)
  have HEB : Hid (chkV x.p x.o x.e = 0 → (eo x).length ≤ 50) := Lib.hid (fun h => (Good.len ⟨h, hw.1, hw.2⟩).1)
  have HSM : Hid (Fit .u8 (eo x)) := Lib.hid (Small.fit eo_small)
  have hlb := lgD_bd L
  obtain ⟨hG0, A, n, cp, last, mr, mm, hl, hlr⟩ := H
  have HL := Lib.hid hl
  have HLR := Lib.hid hlr
  have hlenL : L.length = n := (OwnK.num hlr.row.1).symm
  obtain ⟨q, hq⟩ : ∃ q, decide (auc x) = q := ⟨_, rfl⟩
  have HCQ : Hid (∀ W, Calls Try.prog 38 #[.agg #[.int .i64 x.p, .int .i64 x.o, .int .u64 x.h, .int .u64 x.a, .int .i64 x.e]] W (Says W (.bool q))) := Lib.hid (fun W => by rw [← hq]; exact HIO.out W)
  have HQ := Lib.hid hq
  obtain ⟨xp, xo, xh, xa, xe⟩ := x
  simp only at *
  generalize hE : apE cap L ⟨xp, xo, xh, xa, xe⟩ = E at *
  generalize hLL : apL cap L ⟨xp, xo, xh, xa, xe⟩ = LL at *
  generalize hkc : chkV xp xo xe = kc at *
  obtain ⟨rf, hrf⟩ : ∃ rf : Int → Nat, rcN L = rf := ⟨_, rfl⟩
  rw [hrf] at HLR
  have HRF := Lib.hid hrf
  rw [hrf] at HAE HRL HBU HSY
  obtain ⟨mf, hmf⟩ : ∃ mf : Int → Nat, msN M = mf := ⟨_, rfl⟩
  have HMF := Lib.hid hmf
  rw [hmf] at HLR
  obtain ⟨dd, hdd⟩ : ∃ dd, lgD start L = dd := ⟨_, rfl⟩
  have HDD := Lib.hid hdd
  rw [hdd] at hlb HED
  obtain ⟨d0, d1⟩ := hlb
  obtain ⟨ex, hex⟩ : ∃ ex, eo ⟨xp, xo, xh, xa, xe⟩ = ex := ⟨_, rfl⟩
  have HEX := Lib.hid hex
  rw [hex] at HED HEO HEB HSM
  rw [← HEO.out] at HEN
  clear hb0 hx0 hl hlr hq hE hLL HIO hkc hrf hmf hdd hex hw hG0
  go_enter Try.func15, Try.ntmps15
  go_wp2_with fail
  generalize w.alloc (.cells #[.int .i64 xp, .int .i64 xo, .int .u64 xh, .int .u64 xa, .int .i64 xe] 27) = w0 at *
  have hlt0 : w.heap.size < w0.heap.size := HX0.out.lt
  generalize htb : w.heap.size = tb at *
  have HTB := Lib.hid htb
  have HTL : Hid (tb ≤ w.heap.size) := Lib.hid (by omega)
  clear htb
  refine HEN.out.mono ?_
  rintro e w1 ⟨v1, rfl, ho1, hb1⟩
  have HB1 := Lib.hid (Below.then HB0.out hb1 HTL.out)
  have HX1 := Lib.hid (HX0.out.go hb1)
  have HO1 := Lib.hid (ho1.down (B := tb) (Nat.le_of_lt hlt0))
  obtain ⟨A1, n1, e1, rfl, hr1⟩ := ho1.shape
  clear hb1 ho1 hr1 HEN HB0 HX0 c0 c1 c2 c3 c4
  by_cases hz : kc = 0
  · subst hz
    obtain ⟨c0, c1, c2, c3, c4⟩ := HX1.out.cells
    go_wp2_with fail
    refine (HCQ.out w1).mono ?_
    rintro e w2 ⟨rfl, hb2⟩
    have HB2 := Lib.hid (Below.then HB1.out hb2 HTL.out)
    have HX2 := Lib.hid (HX1.out.go hb2)
    have HO2 := Lib.hid (HO1.out.below hb2)
    have hlt2 := HX2.out.lt
    clear hb2 HCQ HB1 HX1 HO1 c0 c1 c2 c3 c4
    obtain ⟨c0, c1, c2, c3, c4⟩ := HX2.out.cells
    have hRI := HRI.out (by first | rfl | trivial)
    have hGG := HGG.out (by first | rfl | trivial)
    have hEB := HEB.out (by first | rfl | trivial)
    have HRX := Lib.hid hRI
    have HG2 := Lib.hid hGG
    have HEL := Lib.hid hEB
    clear hRI hGG hEB HRI HGG HEB
    cases q with
    | true =>
      have hau := of_decide_eq_true HQ.out
      have HAU := Lib.hid hau
      have HRM := Lib.hid (roomL_any (P := some ⟨p, 0, none⟩) (z := xp) ((HLR.out.r.ptr).go (HTB.out.symm ▸ HB2.out)) HRX.out)
      clear hau
      go_wp2_with fail
      refine HRM.out.mono ?_
      rintro e w3 ⟨rfl, hb3⟩
      have HB3 := Lib.hid (Below.then HB2.out hb3 HTL.out)
      have HX3 := Lib.hid (HX2.out.go hb3)
      have HO3 := Lib.hid (HO2.out.below hb3)
      clear hb3 HRM HB2 HX2 HO2 c0 c1 c2 c3 c4 hlt2
      obtain ⟨y, hy⟩ : ∃ y, rf xp = y := ⟨_, rfl⟩
      have HY := Lib.hid hy
      rw [hy] at HAE HRL
      rw [hy]
      clear hy
      by_cases hro : (y : Int) < cap
      · have hroD : decide ((y : Int) < cap) = true := decide_eq_true hro
        have HE : Hid (E = 0 ∧ LL = L ++ [⟨xp, xo, xh, xa, xe⟩]) := Lib.hid (by
          have h1 : E = 0 := by rw [HAE.out, if_neg (by omega), if_neg (by omega)]
          exact ⟨h1, HOK.out h1⟩)
        clear hro
        simp only [hroD]
        go_wp2
        have HS3 : Hid (ApS w c k p cap A n cp last mr mm L L.length M.length rf mf ⟨xp, xo, xh, xa, xe⟩ (.slice A1 n1 e1) w3.drew (rc c tb (k + 1))) := Lib.hid (by
          have hbd := below_drewN (Below.refl w3.heap.size w3) 1
          have hbw : Below w.heap.size w w3.drew := HTB.out.symm ▸ (HB3.out.trans (hbd.mono (Nat.le_trans HTL.out HB3.out.size)))
          have ht := HTB.out
          subst ht
          exact ⟨HLR.out.go hbw (fun g hg => rc_old hg), fun g hg => rc_old hg, Kept.ofBelow hbw, HX3.out.go hbd, (by rw [rc_new (Nat.le_refl _)]; omega), HEX.out.symm ▸ (HO3.out.below hbd), fun g hg => by rw [rc_new (World.ownsRow.lt HO3.out g hg).1]; omega⟩)
        have HIC := Lib.hid (inc_any HS3.out.lr.rec_ HRX.out (by omega) (by rw [HY.out]; have := HRL.out; omega))
        unfold IncE at HIC
        have HCL3 : Hid (∀ W, w3.drew.grownBy W mr → W.heap[p]? = some (.cells #[.int .i64 cap, .slice A n cp, .int .u64 last, .map mr, .map mm] 50 (0, 0)) ∧ W.heap[tb]? = some (.cells #[.int .i64 xp, .int .i64 xo, .int .u64 xh, .int .u64 xa, .int .i64 xe] 27 (0, 0))) := Lib.hid (fun W hW => by
          have S := HS3.out
          refine ⟨(hW.block p S.lr.lt (fun e => map_p S.lr.blk S.lr.rec_ e.symm)).trans S.lr.blk, ?_⟩
          have hb := S.box
          rw [HTB.out] at hb
          exact (hW.block tb hb.lt (fun e => map_p (p := tb) hb S.lr.rec_ e.symm)).trans hb)
        have HS0 : Hid (w3.drew.cell? ⟨p, 3, none⟩ = some (.map mr) ∧ w3.drew.cell? ⟨tb, 0, none⟩ = some (.int .i64 xp)) := Lib.hid (by
          obtain ⟨h1, h2⟩ := HCL3.out w3.drew (World.grownBy.refl _ _)
          exact ⟨(log_cells h1).2.2.2.1, (log_cells h2).1⟩)
        refine wp_region_headed 10 (fun W => W.cell? ⟨p, 3, none⟩ = some (.map mr) ∧ W.cell? ⟨tb, 0, none⟩ = some (.int .i64 xp)) (by kernel_rfl) (by kernel_rfl) ?_
        simp only [List.take_succ_cons, List.take_zero, List.drop_succ_cons, List.drop_zero]
        rw [show Array.replicate 10 false = #[false, false, false, false, false, false, false, false, false, false] from rfl]
        have hHeld := HS0.out
        refine held_take (i := 0) (d := 24) (v := .pointer (some ⟨p, 0, none⟩)) rfl rfl (by kernel_rfl) (by kernel_rfl) (by kernel_rfl) (fun _ _ _ h => h) (by rfl) (fun W _ => run_move_is (.tmp 0) rfl rfl W) hHeld ?_
        simp only [Act.put, List.setIfInBounds_toArray, List.set_cons_zero, List.set_cons_succ]
        refine held_take (i := 1) (d := 25) (v := .pointer (some ⟨p, 0, none⟩)) rfl rfl (by kernel_rfl) (by kernel_rfl) (by kernel_rfl) (fun _ _ _ h => h) (by rfl) (fun W _ => run_move_is (.tmp 0) rfl rfl W) hHeld ?_
        simp only [Act.put, List.setIfInBounds_toArray, List.set_cons_zero, List.set_cons_succ]
        refine held_take (i := 2) (d := 26) (v := .pointer (some ⟨p, 0, none⟩)) rfl rfl (by kernel_rfl) (by kernel_rfl) (by kernel_rfl) (fun _ _ _ h => h) (by rfl) (fun W _ => by go_simp) hHeld ?_
        simp only [Act.put, List.setIfInBounds_toArray, List.set_cons_zero, List.set_cons_succ]
        refine held_take (i := 3) (d := 27) (v := .pointer (some ⟨p, 3, none⟩)) rfl rfl (by kernel_rfl) (by kernel_rfl) (by kernel_rfl) (fun _ _ _ h => h) (by rfl) (fun W _ => by go_simp) hHeld ?_
        simp only [Act.put, List.setIfInBounds_toArray, List.set_cons_zero, List.set_cons_succ]
        refine held_take (i := 4) (d := 28) (v := .map mr) rfl rfl (by kernel_rfl) (by kernel_rfl) (by kernel_rfl) (fun _ _ _ h => h) (by rfl) (fun W hW => by have q := hW.1; go_simp) hHeld ?_
        simp only [Act.put, List.setIfInBounds_toArray, List.set_cons_zero, List.set_cons_succ]
        refine held_take (i := 5) (d := 29) (v := .pointer (some ⟨tb, 0, none⟩)) rfl rfl (by kernel_rfl) (by kernel_rfl) (by kernel_rfl) (fun _ _ _ h => h) (by rfl) (fun W _ => by go_simp) hHeld ?_
        simp only [Act.put, List.setIfInBounds_toArray, List.set_cons_zero, List.set_cons_succ]
        refine held_take (i := 6) (d := 30) (v := .int .i64 xp) rfl rfl (by kernel_rfl) (by kernel_rfl) (by kernel_rfl) (fun _ _ _ h => h) (by rfl) (fun W hW => by have q := hW.2; go_simp) hHeld ?_
        simp only [Act.put, List.setIfInBounds_toArray, List.set_cons_zero, List.set_cons_succ]
        have HCL := Lib.hid (HIC.out)
        refine held_one (i := 7) (by kernel_rfl) ?_
        refine held_callX (d := 31) rfl rfl (by rfl) rfl (by kernel_rfl) Try.func39 (by kernel_rfl) HCL.out ?_
        rintro e w4 ⟨b4, rfl, h41, h42, h43⟩
        have H41 := Lib.hid h41
        have H42 := Lib.hid h42
        have H43 := Lib.hid h43
        have HS4 : Hid (w4.cell? ⟨p, 3, none⟩ = some (.map mr) ∧ w4.cell? ⟨tb, 0, none⟩ = some (.int .i64 xp)) := Lib.hid (by
          obtain ⟨h1, h2⟩ := HCL3.out w4 h43
          exact ⟨(log_cells h1).2.2.2.1, (log_cells h2).1⟩)
        clear h41 h42 h43
        refine ⟨_, rfl, ?_⟩
        clear HCL hHeld
        have hHeld := HS4.out
        refine ⟨hHeld, ?_⟩
        simp only [Act.put, List.setIfInBounds_toArray, List.set_cons_zero, List.set_cons_succ]
        refine held_take (i := 8) (d := 32) (v := .pointer (some ⟨p, 0, none⟩)) rfl rfl (by kernel_rfl) (by kernel_rfl) (by kernel_rfl) (fun _ _ _ h => h) (by rfl) (fun W _ => by go_simp) hHeld ?_
        simp only [Act.put, List.setIfInBounds_toArray, List.set_cons_zero, List.set_cons_succ]
        refine held_take (i := 9) (d := 33) (v := .pointer (some ⟨p, 3, none⟩)) rfl rfl (by kernel_rfl) (by kernel_rfl) (by kernel_rfl) (fun _ _ _ h => h) (by rfl) (fun W _ => by go_simp) hHeld ?_
        simp only [Act.put, List.setIfInBounds_toArray, List.set_cons_zero, List.set_cons_succ]
        refine wpAnyH_done (by kernel_rfl) ?_ _
        clear hHeld
        simp only [atEnd]
        obtain ⟨h51, h52⟩ := HCL3.out w4 H43.out
        obtain ⟨s0, s1, s2, s3, s4⟩ := log_cells h51
        have f3 := frozen_of_row w4 p 3 _ _ h51
        have HS5 := Lib.hid (HS3.out.setRec H42.out H43.out H41.out)
        clear h51 h52 HCL3 HIC HS3 HS0 HS4 H41 H42 H43 HB3 HX3 HO3 HLR
        go_wp2_with fail
        generalize w4.setCell ⟨p, 3, none⟩ (.map (some b4)) = w5 at *
        generalize rc (rc c tb (k + 1)) w3.drew.heap.size k = cc at *
        clear s0 s1 s2 s3 s4 f3
        have HDG := Lib.hid (digestL_any HS5.out.lr.r.ptr HL.out)
        rw [HDD.out] at HDG
        refine HDG.out.mono ?_
        rintro e w6 ⟨rfl, hb6⟩
        have HS6 := Lib.hid (HS5.out.go hb6)
        clear hb6 HDG HS5
        have HCH := Lib.hid (chain_any dd A1 n1 e1 ex w6 (HEX.out ▸ (OwnB.len HS6.out.enc)).row HSM.out (by have h1 := (OwnB.len HS6.out.enc).len; rw [HEX.out] at h1; have := HEL.out; omega) d0 d1)
        unfold Num at HCH
        generalize hch : chn dd ex = ch at *
        have HC := Lib.hid hch
        clear hch
        obtain ⟨s0, s1, s2, s3, s4⟩ := log_cells HS6.out.lr.blk
        have f2 := frozen_of_row w6 p 2 _ _ HS6.out.lr.blk
        go_wp2_with fail
        refine HCH.out.mono ?_
        rintro e w7 ⟨rfl, hww⟩
        subst hww
        have HS8 := Lib.hid (HS6.out.setLast ch)
        clear HCH HS6
        go_wp2
        generalize w6.setCell ⟨p, 2, none⟩ (.int .u64 ch) = w8 at *
        clear s0 s1 s2 s3 s4 f2
        have HS9 := Lib.hid (HS8.out.go (below_drewN (Below.refl _ w8) 1))
        clear HS8
        have HSB := Lib.hid ((Below.refl w8.drew.heap.size w8.drew).alloc (Nat.le_refl _) (.cells #[.int .i64 xp, .int .i64 xo, .int .u64 xh, .int .u64 xa, .int .i64 xe] 27))
        have HXB : Hid (EvB w8.drew tb xp xo xh xa xe) := Lib.hid (by have h := HS9.out.box; rwa [HTB.out] at h)
        have HCL9 : Hid (∀ W, w8.drew.grownBy W (Value.slice A n cp).ownBlock → W.heap[p]? = some (.cells #[.int .i64 cap, .slice A n cp, .int .u64 ch, .map (some b4), .map mm] 50 (0, 0))) := Lib.hid (fun W hW => (hW.block p HS9.out.lr.lt (fun e => HS9.out.lr.row_p e.symm)).trans HS9.out.lr.blk)
        have HS0 : Hid (w8.drew.cell? ⟨p, 1, none⟩ = some (.slice A n cp)) := Lib.hid (log_cells HS9.out.lr.blk).2.1
        have HK7 := Lib.hid (Kws.one_ w8.drew ⟨xp, xo, xh, xa, xe⟩)
        have HOW : Hid (OwnK ev5 27 (w8.drew.alloc (.cells #[.int .i64 xp, .int .i64 xo, .int .u64 xh, .int .u64 xa, .int .i64 xe] 27)) 0 (.slice A n cp) L) := Lib.hid (HS9.out.lr.row.1.alloc _)
        have HS1 : Hid ((w8.drew.alloc (.cells #[.int .i64 xp, .int .i64 xo, .int .u64 xh, .int .u64 xa, .int .i64 xe] 27)).cell? ⟨p, 1, none⟩ = some (.slice A n cp)) := Lib.hid (cell_under HS0.out _)
        refine wp_region_headed 10 (fun W => W.cell? ⟨p, 1, none⟩ = some (.slice A n cp)) (by kernel_rfl) (by kernel_rfl) ?_
        simp only [List.take_succ_cons, List.take_zero, List.drop_succ_cons, List.drop_zero]
        rw [show Array.replicate 10 false = #[false, false, false, false, false, false, false, false, false, false] from rfl]
        have hHeld := HS0.out
        refine held_take (i := 0) (d := 41) (v := .pointer (some ⟨p, 0, none⟩)) rfl rfl (by kernel_rfl) (by kernel_rfl) (by kernel_rfl) (fun _ _ _ h => h) (by rfl) (fun W _ => run_move_is (.tmp 0) rfl rfl W) hHeld ?_
        simp only [Act.put, List.setIfInBounds_toArray, List.set_cons_zero, List.set_cons_succ]
        refine held_take (i := 1) (d := 42) (v := .pointer (some ⟨p, 0, none⟩)) rfl rfl (by kernel_rfl) (by kernel_rfl) (by kernel_rfl) (fun _ _ _ h => h) (by rfl) (fun W _ => run_move_is (.tmp 0) rfl rfl W) hHeld ?_
        simp only [Act.put, List.setIfInBounds_toArray, List.set_cons_zero, List.set_cons_succ]
        refine held_take (i := 2) (d := 43) (v := .pointer (some ⟨p, 0, none⟩)) rfl rfl (by kernel_rfl) (by kernel_rfl) (by kernel_rfl) (fun _ _ _ h => h) (by rfl) (fun W _ => by go_simp) hHeld ?_
        simp only [Act.put, List.setIfInBounds_toArray, List.set_cons_zero, List.set_cons_succ]
        refine held_take (i := 3) (d := 44) (v := .pointer (some ⟨p, 1, none⟩)) rfl rfl (by kernel_rfl) (by kernel_rfl) (by kernel_rfl) (fun _ _ _ h => h) (by rfl) (fun W _ => by go_simp) hHeld ?_
        simp only [Act.put, List.setIfInBounds_toArray, List.set_cons_zero, List.set_cons_succ]
        refine held_take (i := 4) (d := 45) (v := .slice A n cp) rfl rfl (by kernel_rfl) (by kernel_rfl) (by kernel_rfl) (fun _ _ _ h => h) (by rfl) (fun W hW => by have q := hW; go_simp) hHeld ?_
        simp only [Act.put, List.setIfInBounds_toArray, List.set_cons_zero, List.set_cons_succ]
        refine held_one (i := 5) (by kernel_rfl) ?_
        refine held_make (w' := w8.drew) (d := 46) rfl rfl (by rfl) (v := .agg #[.int .i64 xp, .int .i64 xo, .int .u64 xh, .int .u64 xa, .int .i64 xe]) (by obtain ⟨q0, q1, q2, q3, q4⟩ := HXB.out.cells; go_simp) ⟨HS0.out, ?_⟩
        simp only [Act.put, List.setIfInBounds_toArray, List.set_cons_zero, List.set_cons_succ]
        refine held_one (i := 6) (by kernel_rfl) ?_
        refine held_make (w' := w8.drew.alloc (.cells #[.int .i64 xp, .int .i64 xo, .int .u64 xh, .int .u64 xa, .int .i64 xe] 27)) (d := 47) rfl rfl (by rfl) (v := .slice (some ⟨w8.drew.heap.size, 0, none⟩) 1 1) (by go_simp) ⟨HS1.out, ?_⟩
        simp only [Act.put, List.setIfInBounds_toArray, List.set_cons_zero, List.set_cons_succ]
        refine held_one (i := 7) (by kernel_rfl) ?_
        refine held_appK (d := 48) rfl rfl rfl (.tmp 45) (.tmp 47) 35 rfl Try.underlying35 HIE.out HZE.out rfl HZ1.out (by omega) HOW.out rfl HK7.out rfl (by omega) (Nat.zero_le _) ?_
        intro v9 w9 ho9 hg9 he9
        obtain ⟨A9, n9, cp9, rfl, hx9⟩ := ho9.shape
        have hg9d : w8.drew.grownBy w9 (Value.slice A n cp).ownBlock := ⟨hg9.os, hg9.tape, hg9.output, Nat.le_trans HSB.out.size hg9.size, fun g hg hne => (hg9.block g (Nat.lt_of_lt_of_le hg HSB.out.size) hne).trans (Below.heap_alloc _ _ g hg)⟩
        have HBL := Lib.hid (HCL9.out w9 hg9d)
        have HFI := Lib.hid (ApS.fin (M := M) (HMF.out.symm ▸ HS9.out) HG2.out HED.out.symm (by simp) (fun z => HBU.out HAU.out z) HSB.out ho9 hg9 he9)
        have HS7 : Hid (w9.cell? ⟨p, 1, none⟩ = some (.slice A n cp)) := Lib.hid (log_cells HBL.out).2.1
        clear ho9 hg9 he9 hx9 hg9d hHeld
        have hHeld := HS7.out
        refine ⟨hHeld, ?_⟩
        simp only [Act.put, List.setIfInBounds_toArray, List.set_cons_zero, List.set_cons_succ]
        refine held_take (i := 8) (d := 49) (v := .pointer (some ⟨p, 0, none⟩)) rfl rfl (by kernel_rfl) (by kernel_rfl) (by kernel_rfl) (fun _ _ _ h => h) (by rfl) (fun W _ => by go_simp) hHeld ?_
        simp only [Act.put, List.setIfInBounds_toArray, List.set_cons_zero, List.set_cons_succ]
        refine held_take (i := 9) (d := 50) (v := .pointer (some ⟨p, 1, none⟩)) rfl rfl (by kernel_rfl) (by kernel_rfl) (by kernel_rfl) (fun _ _ _ h => h) (by rfl) (fun W _ => by go_simp) hHeld ?_
        simp only [Act.put, List.setIfInBounds_toArray, List.set_cons_zero, List.set_cons_succ]
        refine wpAnyH_done (by kernel_rfl) ?_ _
        clear hHeld
        simp only [atEnd]
        clear HSM HEL HDD HC HED HCL9 HK7 HOW HS0 HS1 HSB HXB
        obtain ⟨s0, s1, s2, s3, s4⟩ := log_cells HBL.out
        have f1 := frozen_of_row w9 p 1 _ _ HBL.out
        clear HBL HS7 HS9
        go_wp2
        go_ret
        rw [HE.out.1, HE.out.2]
        exact HFI.out
      · have hroD : decide ((y : Int) < cap) = false := decide_eq_false hro
        have HE : Hid (E = 19 ∧ LL = L) := Lib.hid (by
          have h1 : E = 19 := by rw [HAE.out, if_neg (by omega), if_pos ⟨HAU.out, by omega⟩]
          exact ⟨h1, HNO.out (by omega)⟩)
        clear hro
        simp only [hroD]
        go_wp2
        go_ret
        rw [HE.out.1, HE.out.2]
        exact HST.out _ _ HB3.out
    | false =>
      have hau := of_decide_eq_false HQ.out
      have HAU := Lib.hid hau
      have HE : Hid (E = 0 ∧ LL = L ++ [⟨xp, xo, xh, xa, xe⟩]) := Lib.hid (by
        have h1 : E = 0 := by rw [HAE.out, if_neg (by omega), if_neg (fun h => hau h.1)]
        exact ⟨h1, HOK.out h1⟩)
      have HS5 : Hid (ApS w c k p cap A n cp last mr mm L L.length M.length rf mf ⟨xp, xo, xh, xa, xe⟩ (.slice A1 n1 e1) w2 (rc c tb (k + 1))) := Lib.hid (by
        have hbw : Below w.heap.size w w2 := HTB.out.symm ▸ HB2.out
        have ht := HTB.out
        subst ht
        exact ⟨HLR.out.go hbw (fun g hg => rc_old hg), fun g hg => rc_old hg, Kept.ofBelow hbw, HX2.out, (by rw [rc_new (Nat.le_refl _)]; omega), HEX.out.symm ▸ HO2.out, fun g hg => by rw [rc_new (World.ownsRow.lt HO2.out g hg).1]; omega⟩)
      clear hau HB2 HX2 HO2 HLR c0 c1 c2 c3 c4
      go_wp2_with fail
      have HS5 : Hid (ApS w c k p cap A n cp last mr mm L (L.length + 1) M.length rf mf ⟨xp, xo, xh, xa, xe⟩ (.slice A1 n1 e1) w2 (rc c tb (k + 1))) := Lib.hid (by
        have S := HS5.out
        exact ⟨⟨S.lr.col, S.lr.blk, S.lr.row, S.lr.rec_.mono (Nat.le_succ _), S.lr.mis, S.lr.two⟩, S.old, S.kept, S.box, S.boxc, S.enc, S.encc⟩)
      have HDG := Lib.hid (digestL_any HS5.out.lr.r.ptr HL.out)
      rw [HDD.out] at HDG
      refine HDG.out.mono ?_
      rintro e w6 ⟨rfl, hb6⟩
      have HS6 := Lib.hid (HS5.out.go hb6)
      clear hb6 HDG HS5
      have HCH := Lib.hid (chain_any dd A1 n1 e1 ex w6 (HEX.out ▸ (OwnB.len HS6.out.enc)).row HSM.out (by have h1 := (OwnB.len HS6.out.enc).len; rw [HEX.out] at h1; have := HEL.out; omega) d0 d1)
      unfold Num at HCH
      generalize hch : chn dd ex = ch at *
      have HC := Lib.hid hch
      clear hch
      obtain ⟨s0, s1, s2, s3, s4⟩ := log_cells HS6.out.lr.blk
      have f2 := frozen_of_row w6 p 2 _ _ HS6.out.lr.blk
      go_wp2_with fail
      refine HCH.out.mono ?_
      rintro e w7 ⟨rfl, hww⟩
      subst hww
      have HS8 := Lib.hid (HS6.out.setLast ch)
      clear HCH HS6
      go_wp2
      generalize w6.setCell ⟨p, 2, none⟩ (.int .u64 ch) = w8 at *
      clear s0 s1 s2 s3 s4 f2
      have HS9 := Lib.hid (HS8.out.go (below_drewN (Below.refl _ w8) 1))
      clear HS8
      have HSB := Lib.hid ((Below.refl w8.drew.heap.size w8.drew).alloc (Nat.le_refl _) (.cells #[.int .i64 xp, .int .i64 xo, .int .u64 xh, .int .u64 xa, .int .i64 xe] 27))
      have HXB : Hid (EvB w8.drew tb xp xo xh xa xe) := Lib.hid (by have h := HS9.out.box; rwa [HTB.out] at h)
      have HCL9 : Hid (∀ W, w8.drew.grownBy W (Value.slice A n cp).ownBlock → W.heap[p]? = some (.cells #[.int .i64 cap, .slice A n cp, .int .u64 ch, .map mr, .map mm] 50 (0, 0))) := Lib.hid (fun W hW => (hW.block p HS9.out.lr.lt (fun e => HS9.out.lr.row_p e.symm)).trans HS9.out.lr.blk)
      have HS0 : Hid (w8.drew.cell? ⟨p, 1, none⟩ = some (.slice A n cp)) := Lib.hid (log_cells HS9.out.lr.blk).2.1
      have HK7 := Lib.hid (Kws.one_ w8.drew ⟨xp, xo, xh, xa, xe⟩)
      have HOW : Hid (OwnK ev5 27 (w8.drew.alloc (.cells #[.int .i64 xp, .int .i64 xo, .int .u64 xh, .int .u64 xa, .int .i64 xe] 27)) 0 (.slice A n cp) L) := Lib.hid (HS9.out.lr.row.1.alloc _)
      have HS1 : Hid ((w8.drew.alloc (.cells #[.int .i64 xp, .int .i64 xo, .int .u64 xh, .int .u64 xa, .int .i64 xe] 27)).cell? ⟨p, 1, none⟩ = some (.slice A n cp)) := Lib.hid (cell_under HS0.out _)
      refine wp_region_headed 10 (fun W => W.cell? ⟨p, 1, none⟩ = some (.slice A n cp)) (by kernel_rfl) (by kernel_rfl) ?_
      simp only [List.take_succ_cons, List.take_zero, List.drop_succ_cons, List.drop_zero]
      rw [show Array.replicate 10 false = #[false, false, false, false, false, false, false, false, false, false] from rfl]
      have hHeld := HS0.out
      refine held_take (i := 0) (d := 41) (v := .pointer (some ⟨p, 0, none⟩)) rfl rfl (by kernel_rfl) (by kernel_rfl) (by kernel_rfl) (fun _ _ _ h => h) (by rfl) (fun W _ => run_move_is (.tmp 0) rfl rfl W) hHeld ?_
      simp only [Act.put, List.setIfInBounds_toArray, List.set_cons_zero, List.set_cons_succ]
      refine held_take (i := 1) (d := 42) (v := .pointer (some ⟨p, 0, none⟩)) rfl rfl (by kernel_rfl) (by kernel_rfl) (by kernel_rfl) (fun _ _ _ h => h) (by rfl) (fun W _ => run_move_is (.tmp 0) rfl rfl W) hHeld ?_
      simp only [Act.put, List.setIfInBounds_toArray, List.set_cons_zero, List.set_cons_succ]
      refine held_take (i := 2) (d := 43) (v := .pointer (some ⟨p, 0, none⟩)) rfl rfl (by kernel_rfl) (by kernel_rfl) (by kernel_rfl) (fun _ _ _ h => h) (by rfl) (fun W _ => by go_simp) hHeld ?_
      simp only [Act.put, List.setIfInBounds_toArray, List.set_cons_zero, List.set_cons_succ]
      refine held_take (i := 3) (d := 44) (v := .pointer (some ⟨p, 1, none⟩)) rfl rfl (by kernel_rfl) (by kernel_rfl) (by kernel_rfl) (fun _ _ _ h => h) (by rfl) (fun W _ => by go_simp) hHeld ?_
      simp only [Act.put, List.setIfInBounds_toArray, List.set_cons_zero, List.set_cons_succ]
      refine held_take (i := 4) (d := 45) (v := .slice A n cp) rfl rfl (by kernel_rfl) (by kernel_rfl) (by kernel_rfl) (fun _ _ _ h => h) (by rfl) (fun W hW => by have q := hW; go_simp) hHeld ?_
      simp only [Act.put, List.setIfInBounds_toArray, List.set_cons_zero, List.set_cons_succ]
      refine held_one (i := 5) (by kernel_rfl) ?_
      refine held_make (w' := w8.drew) (d := 46) rfl rfl (by rfl) (v := .agg #[.int .i64 xp, .int .i64 xo, .int .u64 xh, .int .u64 xa, .int .i64 xe]) (by obtain ⟨q0, q1, q2, q3, q4⟩ := HXB.out.cells; go_simp) ⟨HS0.out, ?_⟩
      simp only [Act.put, List.setIfInBounds_toArray, List.set_cons_zero, List.set_cons_succ]
      refine held_one (i := 6) (by kernel_rfl) ?_
      refine held_make (w' := w8.drew.alloc (.cells #[.int .i64 xp, .int .i64 xo, .int .u64 xh, .int .u64 xa, .int .i64 xe] 27)) (d := 47) rfl rfl (by rfl) (v := .slice (some ⟨w8.drew.heap.size, 0, none⟩) 1 1) (by go_simp) ⟨HS1.out, ?_⟩
      simp only [Act.put, List.setIfInBounds_toArray, List.set_cons_zero, List.set_cons_succ]
      refine held_one (i := 7) (by kernel_rfl) ?_
      refine held_appK (d := 48) rfl rfl rfl (.tmp 45) (.tmp 47) 35 rfl Try.underlying35 HIE.out HZE.out rfl HZ1.out (by omega) HOW.out rfl HK7.out rfl (by omega) (Nat.zero_le _) ?_
      intro v9 w9 ho9 hg9 he9
      obtain ⟨A9, n9, cp9, rfl, hx9⟩ := ho9.shape
      have hg9d : w8.drew.grownBy w9 (Value.slice A n cp).ownBlock := ⟨hg9.os, hg9.tape, hg9.output, Nat.le_trans HSB.out.size hg9.size, fun g hg hne => (hg9.block g (Nat.lt_of_lt_of_le hg HSB.out.size) hne).trans (Below.heap_alloc _ _ g hg)⟩
      have HBL := Lib.hid (HCL9.out w9 hg9d)
      have HFI := Lib.hid (ApS.fin (M := M) (HMF.out.symm ▸ HS9.out) HG2.out HED.out.symm (by simp) (fun z => HSY.out HAU.out z) HSB.out ho9 hg9 he9)
      have HS7 : Hid (w9.cell? ⟨p, 1, none⟩ = some (.slice A n cp)) := Lib.hid (log_cells HBL.out).2.1
      clear ho9 hg9 he9 hx9 hg9d hHeld
      have hHeld := HS7.out
      refine ⟨hHeld, ?_⟩
      simp only [Act.put, List.setIfInBounds_toArray, List.set_cons_zero, List.set_cons_succ]
      refine held_take (i := 8) (d := 49) (v := .pointer (some ⟨p, 0, none⟩)) rfl rfl (by kernel_rfl) (by kernel_rfl) (by kernel_rfl) (fun _ _ _ h => h) (by rfl) (fun W _ => by go_simp) hHeld ?_
      simp only [Act.put, List.setIfInBounds_toArray, List.set_cons_zero, List.set_cons_succ]
      refine held_take (i := 9) (d := 50) (v := .pointer (some ⟨p, 1, none⟩)) rfl rfl (by kernel_rfl) (by kernel_rfl) (by kernel_rfl) (fun _ _ _ h => h) (by rfl) (fun W _ => by go_simp) hHeld ?_
      simp only [Act.put, List.setIfInBounds_toArray, List.set_cons_zero, List.set_cons_succ]
      refine wpAnyH_done (by kernel_rfl) ?_ _
      clear hHeld
      simp only [atEnd]
      clear HSM HEL HDD HC HED HCL9 HK7 HOW HS0 HS1 HSB HXB
      obtain ⟨s0, s1, s2, s3, s4⟩ := log_cells HBL.out
      have f1 := frozen_of_row w9 p 1 _ _ HBL.out
      clear HBL HS7 HS9
      go_wp2
      go_ret
      rw [HE.out.1, HE.out.2]
      exact HFI.out
  · have hzb : (kc != 0) = true := by simpa using hz
    have HE : Hid (E = kc ∧ LL = L) := Lib.hid (by
      have h1 : E = kc := by rw [HAE.out, if_pos hz]
      exact ⟨h1, HNO.out (by omega)⟩)
    go_wp2
    go_ret
    rw [HE.out.1, HE.out.2]
    exact HST.out _ _ HB1.out
end Go.Proofs.Ytlgoiccekgjhnaa
