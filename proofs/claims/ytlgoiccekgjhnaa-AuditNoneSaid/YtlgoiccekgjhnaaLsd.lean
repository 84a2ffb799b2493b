/-
  Contract of the law's list of what a log's iterator runs over. Conditions: at most a million records.
-/
import Derived.Test.YtlgoiccekgjhnaaLit
namespace Go.Proofs.Ytlgoiccekgjhnaa
open Go.ChangeShapes Go.WideShapes Go.ChangeAt Go.RowKit Go.Shelf
attribute [local go_sem] Oper.semAt_some
set_option linter.unusedVariables false
set_option linter.unusedSimpArgs false
set_option maxHeartbeats 4000000
set_option maxRecDepth 100000

theorem EvB.grown {W W' : World} {b : Nat} {p o h a e : Int} {row : Option Nat} (H : EvB W b p o h a e) (hg : W.grownBy W' row) (hr : ∀ r, row = some r → ∃ o : Obj, W.heap[r]? = some o ∧ o.isCells = false) : EvB W' b p o h a e := by
  refine (hg.block b H.lt (fun e => ?_)).trans H
  obtain ⟨o, ho1, ho2⟩ := hr b e.symm
  unfold EvB at H
  rw [H] at ho1
  cases ho1
  simp [Obj.isCells] at ho2
/-- What the law's loop knows between two rounds. -/
structure Lz (w : World) (pre : List (Nat × Ev5)) (W : World) : Prop where
  bel : Below w.heap.size w W
  res : Cel W w.heap.size 35 (.slice none 0 0)
  okb : Cel W (w.heap.size + 1) 4 (.bool false)
  row : ∃ A n c, Bxr ev5 35 27 (w.heap.size + 2) W A n c (pre.map Prod.snd)
theorem lz_own {w : World} {N : Nat} (hw : w.heap.size ≤ N) : OwnFrom N (Lz w) := fun s W W' row h hg hr => by
  obtain ⟨h1, h2, h3, A, n, c, h4⟩ := h
  have hr' : ∀ r, row = some r → ∃ o : Obj, W.heap[r]? = some o ∧ o.isCells = false := fun r e => (hr r e).2
  exact ⟨h1.grown hg h1.size (fun r e => Nat.le_trans hw (hr r e).1), h2.grown hg hr', h3.grown hg hr', A, n, c, h4.grown hg hr'⟩
/-- Where the list's row may lie. -/
def Sz (b m : Nat) (A : World) : Prop := m ≤ A.heap.size ∧ ∀ g, ob b A = some g → m ≤ g
theorem sz_kq {b m : Nat} {A B : World} (hk : Kq b A B) (hs : Sz b m A) : Sz b m B := by
  refine ⟨Nat.le_trans hs.1 hk.1, fun g e => ?_⟩
  rcases hk.2.2 with h | h
  · exact hs.2 g (h ▸ e)
  · exact Nat.le_trans hs.1 (h g e)
theorem listed17_any {w : World} {P : Option Addr} {cap last : Int} {L : List Ev5} {f g : Int → Nat} (H : Rlp w P cap L last f g) (hn : L.length ≤ 1000000) :
    Calls Try.prog 44 #[.pointer P] w fun e w' => ∃ v, e = .returned (.tuple #[v, .bool true]) ∧ OwnK ev5 27 w' w.heap.size v L ∧ Below w.heap.size w w' := by
  obtain ⟨i0, hi0, hz0, hz1, hz2⟩ := info_parts infoE
  have hb1 : Below w.heap.size w (w.alloc (.cells #[.slice none 0 0] 35)) := (Below.refl _ _).alloc (Nat.le_refl _) _
  have e1 : (w.alloc (.cells #[.slice none 0 0] 35)).heap.size = w.heap.size + 1 := by simp
  have hb2 : Below w.heap.size w ((w.alloc (.cells #[.slice none 0 0] 35)).alloc (.cells #[.bool false] 4)) := hb1.alloc hb1.size _
  have e2 : ((w.alloc (.cells #[.slice none 0 0] 35)).alloc (.cells #[.bool false] 4)).heap.size = w.heap.size + 2 := by simp
  have hb3 : Below w.heap.size w (((w.alloc (.cells #[.slice none 0 0] 35)).alloc (.cells #[.bool false] 4)).alloc (.cells #[.slice none 0 0] 35)) := hb2.alloc hb2.size _
  have e3 : (((w.alloc (.cells #[.slice none 0 0] 35)).alloc (.cells #[.bool false] 4)).alloc (.cells #[.slice none 0 0] 35)).heap.size = w.heap.size + 3 := by simp
  have c0 : Cel (((w.alloc (.cells #[.slice none 0 0] 35)).alloc (.cells #[.bool false] 4)).alloc (.cells #[.slice none 0 0] 35)) w.heap.size 35 (.slice none 0 0) := ((Cel.new (w := w) (t := 35) (v := .slice none 0 0)).go ((Below.refl _ _).alloc (Nat.le_refl _) _)).go ((Below.refl _ _).alloc (Nat.le_refl _) _)
  have c1 := ((Cel.new (w := (w.alloc (.cells #[.slice none 0 0] 35))) (t := 4) (v := .bool false))).go ((Below.refl _ _).alloc (Nat.le_refl _) (.cells #[.slice none 0 0] 35))
  have c2 := Cel.new (w := ((w.alloc (.cells #[.slice none 0 0] 35)).alloc (.cells #[.bool false] 4))) (t := 35) (v := .slice none 0 0)
  rw [e1] at c1
  rw [e2] at c2
  have HLT3 : Hid (Lz w [] (((w.alloc (.cells #[.slice none 0 0] 35)).alloc (.cells #[.bool false] 4)).alloc (.cells #[.slice none 0 0] 35))) := Lib.hid ⟨hb3, c0, c1, none, 0, 0, c2, OwnK.nil _ _ _ _⟩
  have HAL := Lib.hid (allW_any P (((w.alloc (.cells #[.slice none 0 0] 35)).alloc (.cells #[.bool false] 4)).alloc (.cells #[.slice none 0 0] 35)))
  rw [e3] at HAL
  have HLV := Lib.hid H
  have HLL := Lib.hid hn
  clear hb1 hb2 hb3 c0 c1 c2 e1 e2 H hn
  refine (callsIn_wide (n := 6)).1 ?_
  refine callsIn_of_wp_marks Try.func44 rfl trivial ?_ rfl
  refine wpIn_wide.2 ?_
  simp only [Try.ntmps44, List.size_toArray, List.length_cons, List.length_nil, Nat.reduceAdd, Nat.reduceSub, Array.replicate_succ, Array.replicate_zero, List.push_toArray, List.append_toArray, List.nil_append, List.cons_append]
  go_wp2_with fail
  generalize (((w.alloc (.cells #[.slice none 0 0] 35)).alloc (.cells #[.bool false] 4)).alloc (.cells #[.slice none 0 0] 35)) = w3 at *
  refine HAL.out.mono ?_
  rintro e w4 ⟨rfl, hw4⟩
  have hz3 : (w3.alloc (.cells #[.pointer P] 31)).heap.size = w.heap.size + 4 := by simp [e3]
  have hz4 : w4.heap.size = w.heap.size + 5 := by rw [hw4]; simp [e3]
  have HLT4 : Hid (Lz w [] w4) := Lib.hid (by
    rw [hw4]
    exact lz_own (N := w.heap.size) (Nat.le_refl _) [] _ _ none (lz_own (N := w.heap.size) (Nat.le_refl _) [] w3 _ none HLT3.out (World.grownBy_alloc w3 _ none) (fun r e => by cases e)) (World.grownBy_alloc _ _ none) (fun r e => by cases e))
  have HC1 : Hid (Cel w4 (w.heap.size + 3) 31 (.pointer P)) := Lib.hid (by
    rw [hw4, ← e3]
    exact Cel.new.go ((Below.refl _ _).alloc (Nat.le_refl _) _))
  have HC2 : Hid (Cel w4 (w.heap.size + 4) 86 (.func (.func 79) #[] #[])) := Lib.hid (by
    rw [hw4, ← hz3]
    exact Cel.new)
  have HSZ : Hid (Sz (w.heap.size + 2) (w.heap.size + 5) w4) := Lib.hid ⟨by omega, fun g hg => by
    have h1 : w4.cell? ⟨w.heap.size + 2, 0, none⟩ = some (.slice none 0 0) := by
      obtain ⟨A, n, c, hr⟩ := HLT4.out.row
      obtain ⟨A', n', c', hr'⟩ := HLT3.out.row
      have e0 : n' = 0 := by
        have := hr'.own.num
        simpa using this
      have hb34 : Below w3.heap.size w3 w4 := by
        rw [hw4]
        exact ((Below.refl _ _).alloc (Nat.le_refl _) _).alloc (by simp) _
      have h2 := (hr'.cel.go hb34).cell
      rcases hr'.own.2 with ⟨e, _⟩ | ⟨g', cap', cur', e, hbg, hg', _⟩
      · rw [e] at h2
        exact h2
      · have h3 := (hr'.own.ge (g := g') (by rw [e]; rfl))
        omega
    unfold ob at hg
    rw [h1] at hg
    cases hg⟩
  clear hw4 HAL HLT3 e3 hz3
  go_wp2
  refine (wpIn_wide (n := 6)).1 ?_
  refine' range_told_box (Kp := Kq (w.heap.size + 2)) rfl (by omega) (gf := 80) (lb := #[.pointer (some ⟨w.heap.size + 3, 0, none⟩), .pointer (some ⟨w.heap.size + 4, 0, none⟩)]) rfl trivial (enters_of Try.func80 (by kernel_rfl) rfl)
    (encs := fun x : Nat × Ev5 => #[.int .i64 (x.1 : Int), .agg #[.int .i64 x.2.p, .int .i64 x.2.o, .int .u64 x.2.h, .int .u64 x.2.a, .int .i64 x.2.e]]) (fun _ => rfl) (fun pre x _ => (sls (fun _ => true) 0 L)[pre.length]? = some x) (fun h k => h.t k) (fun W l o o' hl h hc hw => Kq.b w4 (by omega) W l o o' hl h hc hw) (S := fun xs => xs = sls (fun _ => true) 0 L) ?seq
    (Lz w) (lz_own (by omega)) HLT4.out _ (fun pre x b W => Lz w pre W ∧ (sls (fun _ => true) 0 L)[pre.length]? = some x ∧ EvB W b x.2.p x.2.o x.2.h x.2.a x.2.e) ?rr ?assign ?body ?done
  case seq =>
    intro l J W hW hJ hY h0
    refine run_all17 5 l (w.heap.size + 3) (w.heap.size + 4) HLV.out (HLT4.out.bel.trans (hW.mono (by omega))) HLL.out (by omega) J (Kq (w.heap.size + 2)) (Sz (w.heap.size + 2) (w.heap.size + 5)) ?_ ?_ ?_ hJ hY (HC1.out.go hW) (HC2.out.go hW) h0
    · intro A B hk hs
      refine ⟨fun g cs t fr hg hc => hk.2.1 g cs t fr hc (by omega) (fun e => ?_), sz_kq hk hs⟩
      have := hs.2 g e
      omega
    · refine ⟨Nat.le_trans HSZ.out.1 hW.size, fun g e => HSZ.out.2 g ?_⟩
      unfold ob at e ⊢
      rw [← hW.cell (p := ⟨w.heap.size + 2, 0, none⟩) (by simp only; omega)]
      exact e
    · intro A B hb hs
      refine ⟨Nat.le_trans hs.1 hb.size, fun g e => hs.2 g ?_⟩
      unfold ob at e ⊢
      rw [← hb.cell (p := ⟨w.heap.size + 2, 0, none⟩) (by have := hs.1; simp only; omega)]
      exact e
  case rr =>
    rintro pre x b s A B row ⟨h1, h2, h3⟩ hg hrow
    exact ⟨lz_own (by omega) _ _ _ row h1 hg hrow, h2, h3.grown hg (fun r e => (hrow r e).2)⟩
  case assign =>
    intro l pre x W hi hm
    obtain ⟨b, hb⟩ : ∃ b, W.heap.size = b := ⟨_, rfl⟩
    have hl1 : w.heap.size + 2 < W.heap.size := by
      obtain ⟨A, n, c, hbx⟩ := hi.row
      exact hbx.cel.lt
    have HKR : Hid (Kq (w.heap.size + 2) W (W.alloc (.cells #[.int .i64 x.2.p, .int .i64 x.2.o, .int .u64 x.2.h, .int .u64 x.2.a, .int .i64 x.2.e] 27))) := Lib.hid (Kq.alloc hl1 _)
    have HFA : Hid (Lz w pre (W.alloc (.cells #[.int .i64 x.2.p, .int .i64 x.2.o, .int .u64 x.2.h, .int .u64 x.2.a, .int .i64 x.2.e] 27)) ∧ (sls (fun _ => true) 0 L)[pre.length]? = some x ∧ EvB (W.alloc (.cells #[.int .i64 x.2.p, .int .i64 x.2.o, .int .u64 x.2.h, .int .u64 x.2.a, .int .i64 x.2.e] 27)) b x.2.p x.2.o x.2.h x.2.a x.2.e) :=
      Lib.hid ⟨lz_own (N := w.heap.size) (Nat.le_refl _) _ _ _ none hi (World.grownBy_alloc W _ none) (fun r e => by cases e), hm, by rw [← hb]; exact EvB.new⟩
    clear hi hm
    gi_wp2
    refine ⟨(KeepsOthers.alloc _ _).from _, HKR.out, b, ?_, HFA.out⟩
    clear HFA HKR hb hl1
    clear W
    exact rfl
  case body =>
    rintro l pre x b W ⟨hi, hm, ht⟩
    have hpl : pre.length < L.length := by
      have h1 := (List.getElem?_eq_some_iff.1 hm).1
      rwa [sls_len] at h1
    have hx1 : x.1 = pre.length := by
      rw [sls_all, Nat.zero_add] at hm
      obtain ⟨y, hy, rfl⟩ := Option.map_eq_some_iff.1 hm
      rfl
    obtain ⟨A1, n1, c1, hbx⟩ := hi.row
    have hnp : n1 = pre.length := by
      have := hbx.own.num
      rwa [List.length_map] at this
    subst hnp
    obtain ⟨g0, g1, g2, g3, g4⟩ := ht.cells
    have j0 := hbx.cel.cell
    have HY := Lib.hid (Kws.one_ W x.2)
    have HBX := Lib.hid hbx
    have HRS := Lib.hid hi.res
    have HRO := Lib.hid hi.okb
    have HBL := Lib.hid hi.bel
    have hbz : w.heap.size + 2 < W.heap.size := hbx.cel.lt
    have hpm : pre.length ≤ 1000000 := by have := HLL.out; omega
    have hne0 : ∀ q, q ≤ w.heap.size + 1 → ob (w.heap.size + 2) W ≠ some q := fun q hq e => by
      unfold ob at e
      rw [HBX.out.cel.cell] at e
      have := (HBX.out.own.ge e).1
      omega
    have HNE := Lib.hid hne0
    rw [hx1]
    clear hi hm ht hbx hx1 hpl hne0
    gi_wp2_with (gi_at_builtin; go_must (refine wpListIn_appK _ rfl (.tmp 15) (.tmp 17) 35 rfl Try.underlying35 hi0 hz0 rfl hz1 (by omega) (HBX.out.own.alloc _) rfl HY.out rfl (by rw [List.length_map]; omega) (by simp; omega) ?_); intro v3 w3' ho3 hg3 hn3; obtain ⟨A3, n3, c3, rfl, hx3⟩ := ho3.shape; have HAP := Lib.hid (HBX.out.app ho3 hg3 hn3); have e3 := HAP.out.1.cell; have f3 := HAP.out.1.fr; clear ho3 hg3 hn3 hx3)
    obtain ⟨_, k1, k2, k3, k4⟩ := HAP.out
    refine ⟨k2.from _, k3, ⟨HBL.out.trans (k4.mono (by omega)), k3.2.1 _ _ _ _ HRS.out (by omega) (HNE.out _ (by omega)), k3.2.1 _ _ _ _ HRO.out (by omega) (HNE.out _ (by omega)), A3, n3, c3, ?_⟩⟩
    rw [List.map_append]
    exact k1
  case done =>
    rintro D ys W hD rfl hi hK
    obtain ⟨A1, n1, c1, hbx⟩ := hi.row
    rw [sls_snd] at hbx
    have e0 := hbx.cel.cell
    have e1 := hi.res.cell
    have f1 := hi.res.fr
    have hs := run_setOwn W w.heap.size (.slice A1 n1 c1)
    have hob : ∀ q, q ≤ w.heap.size + 1 → (Value.slice A1 n1 c1).ownBlock = none ∨ (Value.slice A1 n1 c1).ownBlock ≠ some q := fun q hq => by
      rcases ho : (Value.slice A1 n1 c1).ownBlock with _ | g
      · exact .inl rfl
      · refine .inr fun e => ?_
        have := (hbx.own.ge ho).1
        have := Option.some.inj e
        omega
    have hbx1 : Bxr ev5 35 27 (w.heap.size + 2) (W.setCell ⟨w.heap.size, 0, none⟩ (.slice A1 n1 c1)) A1 n1 c1 L := ⟨hbx.cel.other (by omega) _, OwnK.kept hbx.own hs (hob _ (by omega))⟩
    have hr1 := hi.res.set (.slice A1 n1 c1)
    have hk1 := hi.okb.other (b' := w.heap.size) (by omega) (.slice A1 n1 c1)
    have e2 := hk1.cell
    have f2 := hk1.fr
    have hs2 := run_setOwn (W.setCell ⟨w.heap.size, 0, none⟩ (.slice A1 n1 c1)) (w.heap.size + 1) (.bool true)
    have hbx2 : Bxr ev5 35 27 (w.heap.size + 2) ((W.setCell ⟨w.heap.size, 0, none⟩ (.slice A1 n1 c1)).setCell ⟨w.heap.size + 1, 0, none⟩ (.bool true)) A1 n1 c1 L := ⟨hbx1.cel.other (by omega) _, OwnK.kept hbx1.own hs2 (hob _ (by omega))⟩
    have hr2 := hr1.other (b' := w.heap.size + 1) (by omega) (.bool true)
    have hk2 := hk1.set (.bool true)
    have hK0 : Df W D := hK
    have HKW := Lib.hid ((hK0.set ⟨w.heap.size, 0, none⟩ (.slice A1 n1 c1)).set ⟨w.heap.size + 1, 0, none⟩ (.bool true))
    have HDw : Hid (w.heap.size ≤ D) := Lib.hid (by omega)
    have HB := Lib.hid ((hi.bel.setCell (p := ⟨w.heap.size, 0, none⟩) (Nat.le_refl _) (.slice A1 n1 c1)).setCell (p := ⟨w.heap.size + 1, 0, none⟩) (by simp only; omega) (.bool true))
    have HC := Lib.hid hbx2
    have HR := Lib.hid hr2
    have HO := Lib.hid hk2
    clear hK hK0 hD hi hbx hbx1 hbx2 hs hs2 hr1 hr2 hk1 hk2 hob
    dsimp only
    go_wp2
    refine leave_one HKW.out ?_
    have HBs := Lib.hid (HKW.out.below HDw.out HB.out (.deferred none))
    have HOs := Lib.hid (HC.out.grown (grownBy_putObj' _ D (.deferred none)) (fun r e => by cases e; exact ⟨_, HKW.out, rfl⟩)).own
    have k0 := (HR.out.put HKW.out (.deferred none)).cell
    have k1 := (HO.out.put HKW.out (.deferred none)).cell
    refine ⟨.tuple #[.slice A1 n1 c1, .bool true], ?_, _, rfl, HOs.out.down (by omega), HBs.out⟩
    simp [results, Try.f44, go_sem, k0, k1]
end Go.Proofs.Ytlgoiccekgjhnaa
