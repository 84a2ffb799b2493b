/-
  Contracts of the model's SameEvents, encoded, BytesOf and DigestOf: what they return is what the plain functions of the text Alp say. Conditions: the events are valid, at most a thousand.
-/
import Derived.Test.YtlgoiccekgjhnaaAmb
import Derived.Test.YtlgoiccekgjhnaaDis
namespace Go.Proofs.Ytlgoiccekgjhnaa
open Go.ChangeShapes Go.WideShapes Go.ChangeAt Go.RowKit
set_option linter.unusedVariables false
set_option linter.unusedSimpArgs false
set_option maxHeartbeats 4000000
set_option maxRecDepth 100000

/-- Slices as elements. -/
def sl1 : Enc Rec where
  k := 1
  ev := fun r => [r.v]
  len := fun _ => rfl
  one := fun r u hu => by
    simp only [List.mem_singleton] at hu
    subst hu
    rfl
  pos := by omega
theorem sl1_row : ∀ {rs : List Rec}, sl1.row rs = rv rs
  | [] => rfl
  | r :: rs => by
    have := sl1_row (rs := rs)
    simp only [Enc.row, this]
    rfl
theorem OwnK.rvs {t : TypeId} {w : World} {base : Nat} {v : Value} {rs : List Rec} (h : OwnK sl1 t w base v rs) : Own t w base v (rv rs) := by
  unfold Own
  unfold OwnK at h
  rw [sl1_row] at h
  rw [rv_len]
  exact h
/-- The bytes of such slices lie in rows of the call's own. -/
def Rco (w : World) (base : Nat) (rs : List Rec) : Prop := ∀ r ∈ rs, OwnB w base r.v r.l ∧ Small r.l
theorem Small.fit {l : List Int} (h : Small l) : Fit .u8 l := fun x hx => WalkArith.wf_u8 (h x hx)
theorem Rco.recs {w : World} {base : Nat} {rs : List Rec} (h : Rco w base rs) : Recs w w.heap.size rs := fun r hr => by
  obtain ⟨h1, h2⟩ := h r hr
  exact ⟨(OwnB.len h1).row, h2.fit⟩
theorem Rco.below {w w' : World} {base : Nat} {rs : List Rec} (h : Rco w base rs) (hb : Below w.heap.size w w') : Rco w' base rs := fun r hr => ⟨(h r hr).1.below hb, (h r hr).2⟩
theorem Rco.app {w : World} {base : Nat} {rs ss : List Rec} (h : Rco w base rs) (h' : Rco w base ss) : Rco w base (rs ++ ss) := fun r hr => (List.mem_append.1 hr).elim (h r) (h' r)
theorem Rco.one {w : World} {base : Nat} {r : Rec} (h : OwnB w base r.v r.l) (hs : Small r.l) : Rco w base [r] := fun s hs' => by
  rw [List.mem_singleton] at hs'
  rw [hs']; exact ⟨h, hs⟩
theorem OwnB.cells_at {w : World} {base g : Nat} {v : Value} {l : List Int} (h : OwnB w base v l) (hg : v.ownBlock = some g) : ∃ cs, w.heap[g]? = some (.cells cs 5 (0, 0)) := by
  rcases h.2 with ⟨rfl, _⟩ | ⟨g', cap, cur, rfl, hbg, hg', _⟩
  · cases hg
  · cases hg
    exact ⟨_, hg'⟩
/-- Rows of bytes are kept where a row of slices is written. -/
theorem Rco.grown {w w' : World} {base base' : Nat} {rs ss : List Rec} {v : Value} (h : Rco w base rs) (ho : OwnK sl1 52 w base' v ss) (hg : w.grownBy w' v.ownBlock) : Rco w' base rs := fun r hr => by
  obtain ⟨h1, h2⟩ := h r hr
  refine ⟨World.ownsRow.kept h1 hg ?_, h2⟩
  cases hb : r.v.ownBlock with
  | none => exact .inl rfl
  | some g =>
    refine .inr fun e => ?_
    obtain ⟨cs, hcs⟩ := h1.cells_at hb
    obtain ⟨cs', hcs'⟩ := ho.cells_at e.symm
    rw [hcs] at hcs'
    cases hcs'
theorem infoSl : (Try.prog.info? 52).map (fun i => (i.zero, i.size, i.bytes)) = some (some (.slice none 0 0), 1, 24) := by kernel_rfl

theorem sameEv_any (A : Option Addr) (n c : Nat) (A2 : Option Addr) (n2 c2 : Nat) (l : List Ev5) (w : World) (h : Kws ev5 w w.heap.size A n c l) (h2 : Kws ev5 w w.heap.size A2 n2 c2 l) :
    Calls Try.prog 24 #[.slice A n c, .slice A2 n2 c2] w (Says w (.bool true)) := by
  obtain rfl : n2 = n := h2.len.symm.trans h.len
  have HK := Lib.hid h
  have HK2 := Lib.hid h2
  have hcap := h.cap
  have hsm := h.small
  have hcap2 := h2.cap
  have hsm2 := h2.small
  unfold maxLen at hsm hsm2
  clear h h2
  go_enter Try.func24, Try.ntmps24
  go_wp2
  go_loopw [5] (fun iv wr => ∃ i : Nat, i ≤ n2 ∧ iv = .int .i64 i ∧ Hid (Below w.heap.size w wr)) (fun iv _ => n2 - (intOf iv).toNat)
  case atStart => exact ⟨0, Nat.zero_le _, rfl, Lib.hid (Below.refl _ _)⟩
  case round =>
    obtain ⟨i, hi, rfl, HBR⟩ := hrel
    by_cases hin : i < n2
    · have hi1 : (i : Int) < (n2 : Int) := by omega
      obtain ⟨b, ob, x, hx, rfl, hb, _⟩ := HK.out.ev_ hin
      obtain ⟨b2, ob2, x2, hx2, rfl, hb2, _⟩ := HK2.out.ev_ hin
      obtain rfl : x = x2 := Option.some.inj (hx.symm.trans hx2)
      have HL1 : Hid (∀ W, Below wr.heap.size wr W → W.cell? ⟨b, ob + i * 5, none⟩ = some (.int .i64 x.p) ∧ W.cell? ⟨b, ob + i * 5 + 1, none⟩ = some (.int .i64 x.o) ∧ W.cell? ⟨b, ob + i * 5 + 2, none⟩ = some (.int .u64 x.h) ∧ W.cell? ⟨b, ob + i * 5 + 3, none⟩ = some (.int .u64 x.a) ∧ W.cell? ⟨b, ob + i * 5 + 4, none⟩ = some (.int .i64 x.e)) := Lib.hid (fun W hW => by
        obtain ⟨b', o', x', hx', e', _, h0, h1, h2, h3, h4⟩ := (HK.out.below (HBR.out.trans (hW.mono HBR.out.size))).ev_ hin
        cases e'
        obtain rfl : x = x' := Option.some.inj (hx.symm.trans hx')
        exact ⟨h0, h1, h2, h3, h4⟩)
      have HL2 : Hid (∀ W, Below wr.heap.size wr W → W.cell? ⟨b2, ob2 + i * 5, none⟩ = some (.int .i64 x.p) ∧ W.cell? ⟨b2, ob2 + i * 5 + 1, none⟩ = some (.int .i64 x.o) ∧ W.cell? ⟨b2, ob2 + i * 5 + 2, none⟩ = some (.int .u64 x.h) ∧ W.cell? ⟨b2, ob2 + i * 5 + 3, none⟩ = some (.int .u64 x.a) ∧ W.cell? ⟨b2, ob2 + i * 5 + 4, none⟩ = some (.int .i64 x.e)) := Lib.hid (fun W hW => by
        obtain ⟨b', o', x', hx', e', _, h0, h1, h2, h3, h4⟩ := (HK2.out.below (HBR.out.trans (hW.mono HBR.out.size))).ev_ hin
        cases e'
        obtain rfl : x = x' := Option.some.inj (hx2.symm.trans hx')
        exact ⟨h0, h1, h2, h3, h4⟩)
      obtain ⟨xp, xo, xh, xa, xe⟩ := x
      simp only at HL1 HL2
      have heq := eq_ev_self xp xo xh xa xe
      have HD0 : Hid (Below wr.heap.size wr wr.drew) := Lib.hid (below_drewN (Below.refl _ wr) 1)
      clear hx hx2 hb hb2
      go_wp2
      refine wp_region_hand 9 (fun W => Below wr.heap.size wr W) (by kernel_rfl) (by kernel_rfl) ?_
      rw [show Array.replicate 9 false = #[false, false, false, false, false, false, false, false, false] from rfl]
      have hHeld := HD0.out
      refine held_take (i := 0) (d := 17) (v := .slice (some ⟨b, ob, none⟩) n2 c) rfl rfl (by kernel_rfl) (by kernel_rfl) (by kernel_rfl) (fun _ _ _ h => h) (by rfl) (fun W _ => run_move_is (.tmp 0) rfl rfl W) hHeld ?_
      simp only [Act.put, List.setIfInBounds_toArray, List.set_cons_zero, List.set_cons_succ]
      refine held_take (i := 1) (d := 18) (v := .int .i64 (i : Int)) rfl rfl (by kernel_rfl) (by kernel_rfl) (by kernel_rfl) (fun _ _ _ h => h) (by rfl) (fun W _ => run_move_is (.tmp 5) rfl rfl W) hHeld ?_
      simp only [Act.put, List.setIfInBounds_toArray, List.set_cons_zero, List.set_cons_succ]
      refine held_take (i := 2) (d := 19) (v := .pointer (some ⟨b, ob + i * 5, none⟩)) rfl rfl (by kernel_rfl) (by kernel_rfl) (by kernel_rfl) (fun _ _ _ h => h) (by rfl) (fun W _ => by go_simp) hHeld ?_
      simp only [Act.put, List.setIfInBounds_toArray, List.set_cons_zero, List.set_cons_succ]
      refine held_take (i := 3) (d := 20) (v := .agg #[.int .i64 xp, .int .i64 xo, .int .u64 xh, .int .u64 xa, .int .i64 xe]) rfl rfl (by kernel_rfl) (by kernel_rfl) (by kernel_rfl) (fun _ _ _ h => h) (by rfl) (fun W hW => by obtain ⟨q0, q1, q2, q3, q4⟩ := HL1.out W hW; go_simp) hHeld ?_
      simp only [Act.put, List.setIfInBounds_toArray, List.set_cons_zero, List.set_cons_succ]
      refine held_take (i := 4) (d := 21) (v := .slice (some ⟨b2, ob2, none⟩) n2 c2) rfl rfl (by kernel_rfl) (by kernel_rfl) (by kernel_rfl) (fun _ _ _ h => h) (by rfl) (fun W _ => run_move_is (.tmp 1) rfl rfl W) hHeld ?_
      simp only [Act.put, List.setIfInBounds_toArray, List.set_cons_zero, List.set_cons_succ]
      refine held_take (i := 5) (d := 22) (v := .int .i64 (i : Int)) rfl rfl (by kernel_rfl) (by kernel_rfl) (by kernel_rfl) (fun _ _ _ h => h) (by rfl) (fun W _ => run_move_is (.tmp 5) rfl rfl W) hHeld ?_
      simp only [Act.put, List.setIfInBounds_toArray, List.set_cons_zero, List.set_cons_succ]
      refine held_take (i := 6) (d := 23) (v := .pointer (some ⟨b2, ob2 + i * 5, none⟩)) rfl rfl (by kernel_rfl) (by kernel_rfl) (by kernel_rfl) (fun _ _ _ h => h) (by rfl) (fun W _ => by go_simp) hHeld ?_
      simp only [Act.put, List.setIfInBounds_toArray, List.set_cons_zero, List.set_cons_succ]
      refine held_take (i := 7) (d := 24) (v := .agg #[.int .i64 xp, .int .i64 xo, .int .u64 xh, .int .u64 xa, .int .i64 xe]) rfl rfl (by kernel_rfl) (by kernel_rfl) (by kernel_rfl) (fun _ _ _ h => h) (by rfl) (fun W hW => by obtain ⟨q0, q1, q2, q3, q4⟩ := HL2.out W hW; go_simp) hHeld ?_
      simp only [Act.put, List.setIfInBounds_toArray, List.set_cons_zero, List.set_cons_succ]
      refine held_take (i := 8) (d := 25) (v := .bool false) rfl rfl (by kernel_rfl) (by kernel_rfl) (by kernel_rfl) (fun _ _ _ h => h) (by rfl) (fun W _ => by have q := heq W; go_simp) hHeld ?_
      simp only [Act.put, List.setIfInBounds_toArray, List.set_cons_zero, List.set_cons_succ]
      refine wpAnyH_done (by kernel_rfl) ?_ _
      clear hHeld
      have HBN := Lib.hid (Below.then HBR.out HD0.out (Nat.le_refl _))
      clear HD0 HL1 HL2 heq HBR
      go_wp2
      go_roundw
      case rel => exact ⟨i + 1, by omega, by go_num, HBN⟩
      case measure => simp [intOf]; omega
    · obtain rfl : i = n2 := by omega
      have hd : ¬ (i : Int) < (i : Int) := by omega
      go_wp2
      go_ret
      exact Says.of HBR.out
/-- What encoded leaves. -/
def EnD (w : World) (l : List Ev5) (e : Ending) (w' : World) : Prop := ∃ A n c rs, e = .returned (.slice A n c) ∧ Arg w' A n c rs ∧ bs rs = l.map eo ∧ Below w.heap.size w w'
theorem encoded_any (A : Option Addr) (n c : Nat) (l : List Ev5) (w : World) (h : Kws ev5 w w.heap.size A n c l) (hg : Goods l) (hn : n ≤ 1000) :
    Calls Try.prog 50 #[.slice A n c] w (EnD w l) := by
  obtain ⟨ie, hie, hz0, hz1, hz2⟩ := info_parts infoSl
  have HK := Lib.hid h
  have HG := Lib.hid hg
  have hcap := h.cap
  have hsm := h.small
  have hlen := h.len
  unfold maxLen at hsm
  have HEE : Hid (∀ (A' : Option Addr) (n' c' : Nat) (rs : List Rec) (W : World), Arg W A' n' c' rs → bs rs = l.map eo → Below w.heap.size w W → EnD w l (.returned (.slice A' n' c')) W) := Lib.hid (fun A' n' c' rs W h1 h2 h3 => ⟨A', n', c', rs, rfl, h1, h2, h3⟩)
  clear h hg
  go_enter Try.func50, Try.ntmps50
  go_wp2
  go_loopw [3, 4] (fun ov iv wr => ∃ i : Nat, i ≤ n ∧ iv = .int .i64 i ∧ ∃ A3 n3 c3, ov = .slice A3 n3 c3 ∧ n3 ≤ i ∧ Hid (∃ rs, OwnK sl1 52 wr w.heap.size (.slice A3 n3 c3) rs ∧ Rco wr w.heap.size rs ∧ bs rs = (l.take i).map eo ∧ Below w.heap.size w wr)) (fun _ iv _ => n - (intOf iv).toNat)
  case atStart => exact ⟨0, Nat.zero_le _, rfl, none, 0, 0, rfl, Nat.le_refl _, Lib.hid ⟨[], OwnK.nil _ _ _ _, fun r hr => by (cases hr), rfl, Below.refl _ _⟩⟩
  case round =>
    obtain ⟨i, hi, rfl, A3, n3, c3, rfl, hn3, hh⟩ := hrel
    obtain ⟨rs, ho, hrc, hbs, hbw⟩ := hh.out
    have HO := Lib.hid ho
    have HRC := Lib.hid hrc
    have HBS := Lib.hid hbs
    have HBW := Lib.hid hbw
    clear hh ho hrc hbs hbw
    by_cases hin : i < n
    · have hi1 : (i : Int) < (n : Int) := by omega
      obtain ⟨b, ob, x, hx, rfl, hb, g0, g1, g2, g3, g4⟩ := (HK.out.go HBW.out).ev_ hin
      have hgx := HG.out x (List.mem_of_getElem? hx)
      have HEN := Lib.hid (encodeR_any x.p x.o x.h x.a x.e wr hgx.2.1 hgx.2.2)
      have HBX : Hid ((l.take (i + 1)).map eo = (l.take i).map eo ++ [eo x]) := Lib.hid (by rw [List.take_add_one, hx, List.map_append]; rfl)
      have HEL := Lib.hid hgx.len
      have HRL : Hid (rs.length = n3) := Lib.hid (by
        obtain ⟨A', n', c', e, hk⟩ := HO.out.shape
        cases e
        exact hk.len)
      unfold EncE at HEN
      have HES : Hid (Small (eo x)) := Lib.hid eo_small
      rw [show encO x.p x.o x.h x.a x.e = eo x from rfl] at HEN
      generalize eo x = ex at *
      generalize chkV x.p x.o x.e = kx at *
      obtain ⟨xp, xo, xh, xa, xe⟩ := x
      simp only at *
      clear hx hb hgx
      go_wp2_with fail
      refine HEN.out.mono ?_
      rintro e w5 ⟨v5, rfl, ho5, hb5⟩
      obtain ⟨A5, n5, c5, rfl, hr5⟩ := ho5.shape
      have hbw5 := Below.then HBW.out hb5 (Nat.le_refl _)
      have hr1 : Rco w5 w.heap.size [⟨A5, n5, c5, ex⟩] := Rco.one (r := ⟨A5, n5, c5, ex⟩) (ho5.down HBW.out.size) HES.out
      have HR5 : Hid (Rco (w5.alloc (.cells #[.slice A5 n5 c5] 52)) w.heap.size (rs ++ [⟨A5, n5, c5, ex⟩])) := Lib.hid (((HRC.out.below hb5).app hr1).below ((Below.refl _ _).alloc (Nat.le_refl _) _))
      have HO5 := Lib.hid (HO.out.below hb5)
      have HB5 := Lib.hid hbw5
      have HN5 : Hid (Kws sl1 (w5.alloc (.cells #[.slice A5 n5 c5] 52)) (w5.heap.size + 1) (some ⟨w5.heap.size, 0, none⟩) 1 1 [⟨A5, n5, c5, ex⟩]) := Lib.hid (Kws.new (E := sl1) w5 [(⟨A5, n5, c5, ex⟩ : Rec)] _ _ 1 rfl rfl (by unfold maxLen; omega))
      clear ho5 hb5 hr5 hbw5 hr1 HEN HO HRC HBW g0 g1 g2 g3 g4
      go_wp2_with (at_builtin; go_must (refine wpList_appK _ rfl (.tmp 21) (.tmp 23) 75 rfl Try.underlying75 hie hz0 rfl hz1 (by omega) (HO5.out.alloc _) rfl HN5.out rfl (by have := HRL.out; omega) (by have := HB5.out.size; simp; omega) ?_); intro v6 w6 ho6 hb6 hg6)
      have HF : Hid (∃ rs', OwnK sl1 52 w6 w.heap.size v6 rs' ∧ Rco w6 w.heap.size rs' ∧ bs rs' = (l.take (i + 1)).map eo ∧ Below w.heap.size w w6) := Lib.hid ⟨_, ho6, HR5.out.grown (HO5.out.alloc _) hg6.1, by rw [HBX.out, ← HBS.out]; simp [bs], (HB5.out.alloc HB5.out.size (.cells #[.slice A5 n5 c5] 52)).trans hb6⟩
      obtain ⟨A6, n6, c6, rfl, hk6⟩ := ho6.shape
      have hn6 : n6 ≤ i + 1 := by
        have h1 := hk6.len
        have h2 := HRL.out
        rw [List.length_append] at h1
        simp only [List.length_cons, List.length_nil] at h1
        omega
      clear ho6 hb6 hg6 hk6 HR5 HO5 HB5 HN5 HBS HBX HRL
      go_wp2
      go_roundw
      case rel => exact ⟨i + 1, by omega, by go_num, A6, n6, c6, rfl, hn6, HF⟩
      case measure => simp [intOf]; omega
    · obtain rfl : i = n := by omega
      have hd : ¬ (i : Int) < (i : Int) := by omega
      have HE : Hid (bs rs = l.map eo) := Lib.hid (by rw [HBS.out, List.take_of_length_le (by omega)])
      have HAR : Hid (Arg wr A3 n3 c3 rs) := Lib.hid ⟨by
        obtain ⟨A', n', c', e, hr⟩ := HO.out.rvs.shape
        cases e
        exact hr, HRC.out.recs⟩
      go_wp2
      go_ret
      exact HEE.out _ _ _ rs _ HAR.out HE.out HBW.out
end Go.Proofs.Ytlgoiccekgjhnaa
