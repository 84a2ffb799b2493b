/-
  The law TyperegStable as a walk: called with any arguments of its types it returns true. No conditions.
-/
import Derived.Test.YtgddlpabgeeflaaClr
import Derived.Deep.CutRange
namespace Go.Proofs.Ytgddlpabgeeflaa
open Go.ChangeShapes Go.WideShapes Go.RowKit
set_option linter.unusedVariables false
set_option linter.unusedSimpArgs false
set_option maxHeartbeats 8000000
set_option maxRecDepth 100000

/-- The colours of a registry at block b and a tape at block t. -/
def ci (b t : Nat) : Nat → Nat := fun g => if g = b then 2 else if g = t then 4 else 0
theorem ci_b {b t : Nat} : ci b t b = 2 := if_pos rfl
theorem ci_t {b t : Nat} (h : b < t) : ci b t t = 4 := by
  unfold ci
  rw [if_neg (by omega), if_pos rfl]
theorem ci_2 {b t g : Nat} (h : ci b t g = 2) : g = b := by
  unfold ci at h
  split at h
  · assumption
  · split at h <;> omega
theorem ci_5 {b t g : Nat} : ci b t g ≠ 5 ∧ ci b t g ≠ 6 := by
  unfold ci
  split
  · omega
  · split <;> omega
/-- The law's state: the registry, the tape, the types and their tags. -/
structure Sd (rb tb : Nat) (L : List Int) (w : World) (c : Nat → Nat) (T : List (Int × List (Int × Int))) (X : List Ty) (idx : Nat) (av tv : Value) (t : List Int) : Prop where
  reg : Reg w c 2 0 rb T
  ts : TS w tb L idx
  all : OwC 5 tyE 35 w c av X
  tgs : OwC 6 int1 3 w c tv t
  flds : ∀ r ∈ X, Ex0 w c r.A r.m r.c r.l
  low : ∀ g, g ≤ tb → c g = ci rb tb g
  lt : rb < tb
section
variable {rb tb idx idx' : Nat} {L t : List Int} {w w' : World} {c c' : Nat → Nat} {T T' : List (Int × List (Int × Int))} {X : List Ty} {av tv : Value}
theorem Sd.go (h : Sd rb tb L w c T X idx av tv t) (hb : Below w.heap.size w w') : Sd rb tb L w' c T X idx av tv t :=
  ⟨h.reg.go hb, h.ts.go hb, h.all.kept (j := 7) (Kept.ofBelow hb) (by omega) (fun _ _ => rfl), h.tgs.kept (j := 7) (Kept.ofBelow hb) (by omega) (fun _ _ => rfl), fun r hr => (h.flds r hr).kept (j := 7) (Kept.ofBelow hb) (by omega) (fun _ _ => rfl), h.low, h.lt⟩
theorem Sd.low' (h : Sd rb tb L w c T X idx av tv t) (hc : ∀ g, g < w.heap.size → c' g = c g) : ∀ g, g ≤ tb → c' g = ci rb tb g := fun g hg => (hc g (Nat.lt_of_le_of_lt hg h.ts.lt)).trans (h.low g hg)
/-- A number is read off the tape. -/
theorem Sd.read (h : Sd rb tb L w c T X idx av tv t) (ho : Oth tb w w') (ht : TS w' tb L idx') : Sd rb tb L w' (rc c w.heap.size 0) T X idx' av tv t := by
  have hk : Kept c 4 w w' := Kept.ofOth ho ((h.low tb (Nat.le_refl _)).trans (ci_t h.lt))
  exact ⟨h.reg.kept hk (by omega) (by omega) (fun _ hg => rc_old hg), ht, h.all.kept hk (by omega) (fun _ hg => rc_old hg), h.tgs.kept hk (by omega) (fun _ hg => rc_old hg), fun r hr => (h.flds r hr).kept hk (by omega) (fun _ hg => rc_old hg), h.low' (fun _ hg => rc_old hg), h.lt⟩
/-- A type is registered. -/
theorem Sd.regd (h : Sd rb tb L w c T X idx av tv t) (hc : ∀ g, g < w.heap.size → c' g = c g) (hr : Reg w' c' 2 0 rb T') (hk : Kept c 2 w w') : Sd rb tb L w' c' T' X idx av tv t := by
  obtain ⟨v, rs, h1, h2, _⟩ := h.reg.ex
  obtain ⟨A, n, cc, rfl, _⟩ := h2.shape
  exact ⟨hr, h.ts.keptC hk (by rw [h.low tb (Nat.le_refl _), ci_t h.lt]; omega) (fun g hg he => by
    rw [h.low g (Nat.le_of_lt hg)] at he
    obtain rfl := ci_2 he
    exact ⟨_, _, _, h1, fun x hx => by cases hx⟩), h.all.kept hk (by omega) hc, h.tgs.kept hk (by omega) hc, fun r hr => (h.flds r hr).kept hk (by omega) hc, h.low' hc, h.lt⟩
/-- A type is put behind the types. -/
theorem Sd.app {av' : Value} {r : Ty} (h : Sd rb tb L w c T X idx av tv t) (hx : Ex0 w c r.A r.m r.c r.l) (ho : OwnK tyE 35 w' 0 av' (X ++ [r])) (hg : w.grownBy w' av.ownBlock) (hv : av'.ownBlock = av.ownBlock ∨ av'.ownBlock = some w.heap.size) :
    Sd rb tb L w' (cn c w.heap.size 5 av') T (X ++ [r]) idx av' tv t := by
  obtain ⟨h1, hk⟩ := h.all.app ho hg hv
  have hc : ∀ g, g < w.heap.size → cn c w.heap.size 5 av' g = c g := fun g hg => cn_old hg
  exact ⟨h.reg.kept hk (by omega) (by omega) hc, h.ts.keptC hk (by rw [h.low tb (Nat.le_refl _), ci_t h.lt]; omega) (fun g hg he => absurd (by rw [← h.low g (Nat.le_of_lt hg)]; exact he) (ci_5 (b := rb) (t := tb) (g := g)).1), h1, h.tgs.kept hk (by omega) hc, fun r' hr => by
    rcases List.mem_append.1 hr with h2 | h2
    · exact (h.flds r' h2).kept hk (by omega) hc
    · simp only [List.mem_singleton] at h2
      subst h2
      exact hx.kept hk (by omega) hc, h.low' hc, h.lt⟩
/-- A tag is put behind the tags. -/
theorem Sd.tag {tv' : Value} {t' : List Int} (h : Sd rb tb L w c T X idx av tv t) (ho : OwnK int1 3 w' 0 tv' t') (hg : w.grownBy w' tv.ownBlock) (hv : tv'.ownBlock = tv.ownBlock ∨ tv'.ownBlock = some w.heap.size) :
    Sd rb tb L w' (cn c w.heap.size 6 tv') T X idx av tv' t' := by
  obtain ⟨h1, hk⟩ := h.tgs.app ho hg hv
  have hc : ∀ g, g < w.heap.size → cn c w.heap.size 6 tv' g = c g := fun g hg => cn_old hg
  exact ⟨h.reg.kept hk (by omega) (by omega) hc, h.ts.keptC hk (by rw [h.low tb (Nat.le_refl _), ci_t h.lt]; omega) (fun g hg he => absurd (by rw [← h.low g (Nat.le_of_lt hg)]; exact he) (ci_5 (b := rb) (t := tb) (g := g)).2), h.all.kept hk (by omega) hc, h1, fun r' hr => (h.flds r' hr).kept hk (by omega) hc, h.low' hc, h.lt⟩
theorem Sd.kept_ {k : Nat} (h : Sd rb tb L w c T X idx av tv t) (hk : Kept c k w w') {w0 : World} (hb : Below w0.heap.size w0 w) (hrb : w0.heap.size ≤ rb) (h0 : k ≠ 0) : Below w0.heap.size w0 w' :=
  hb.trans (hk.below (fun g hg => by
    have := h.lt
    rw [h.low g (by omega)]
    unfold ci
    rw [if_neg (by omega), if_neg (by omega)]
    omega) hb.size)
end
theorem Kws.int {w : World} {B n c : Nat} {A : Option Addr} {l : List Int} (h : Kws int1 w B A n c l) {i : Nat} (hi : i < n) : ∃ b o x, l[i]? = some x ∧ A = some ⟨b, o, none⟩ ∧ b < B ∧ w.cell? ⟨b, o + i, none⟩ = some (.int .i64 x) := by
  obtain ⟨b, o, x, h1, h2, h3, h4⟩ := h.at_ hi
  refine ⟨b, o, x, h1, h2, h3, ?_⟩
  have h5 := h4 0 _ rfl
  rwa [show int1.k = 1 from rfl, Nat.mul_one, Nat.add_zero] at h5
theorem infoInt : (Try.prog.info? 3).map (fun i => (i.zero, i.size, i.bytes)) = some (some (.int .i64 0), 1, 8) := by kernel_rfl
/-- What the law knows between two rounds. -/
def Sb (w0 : World) (rb tb : Nat) (L : List Int) (i : Nat) (av tv : Value) (w : World) : Prop :=
  ∃ c T X idx, Sd rb tb L w c T X idx av tv (tg T X) ∧ (∀ r ∈ X, r.t ∈ T ∧ r.l.length ≤ 4) ∧ X.length = i ∧ T.length ≤ i ∧ Sm T ∧ idx ≤ 12 * i ∧ Below w0.heap.size w0 w
theorem typeregStable_walk (a0 : Option Addr) (len0 cap0 : Nat) (z0 : List Int) (w : World) (w0 : IsRow .u16 w a0 len0 cap0 z0) :
    Calls Try.prog 7 #[.slice a0 len0 cap0] w fun e w' => e = .returned (.bool true) ∧ Below w.heap.size w w' := by
  obtain ⟨hrow, hfit⟩ := w0.row
  obtain ⟨i0, hi0, hz0, hz1, hz2⟩ := info_parts infoTy
  obtain ⟨i1, hi1, hy0, hy1, hy2⟩ := info_parts infoInt
  have HI := Lib.hid hi0
  have HZ := Lib.hid hz0
  have HIT := Lib.hid hi1
  have HZT := Lib.hid hy0
  generalize z0.take len0 = L0 at *
  have HROW := Lib.hid hrow
  obtain ⟨L, hL⟩ : ∃ L, L0.take 100 = L := ⟨_, rfl⟩
  have HF : Hid (Fit .u16 L) := Lib.hid (by rw [← hL]; exact hfit.take 100)
  have HN := Lib.hid (newT_any w)
  clear w0 hrow hfit hi0 hz0 hi1 hy0
  go_enter Try.func7, Try.ntmps7
  go_wp2_with fail
  refine HN.out.mono ?_
  rintro e w1 ⟨rfl, hw1⟩
  have HB1 : Hid (Below w.heap.size w w1) := Lib.hid (by rw [hw1]; exact (Below.refl _ _).alloc (Nat.le_refl _) _)
  have hz1' : w1.heap.size = w.heap.size + 1 := by rw [hw1]; simp
  have HRG : Hid (∀ tb, Reg w1 (ci w.heap.size tb) 2 0 w.heap.size []) := Lib.hid (fun tb => by rw [hw1]; exact Reg.new ci_b)
  clear hw1
  have HOF := Lib.hid (of_any a0 len0 cap0 L0 100 w1 (HROW.out.go HB1.out) (by omega))
  rw [hL] at HOF
  go_wp2_with fail
  refine HOF.out.mono ?_
  rintro e w2 ⟨tb, rfl, hts, hge, hb1⟩
  have HS0 : Hid (Sb w w.heap.size tb L 0 (.slice none 0 0) (.slice none 0 0) w2) := Lib.hid ⟨ci w.heap.size tb, [], [], 0, ⟨(HRG.out tb).go hb1, hts, OwC.nil, OwC.nil, fun r hr => (by cases hr), fun _ _ => rfl, by omega⟩, fun r hr => (by cases hr), rfl, Nat.le_refl _, Sm.nil, Nat.zero_le _, Below.then HB1.out hb1 (by omega)⟩
  clear hts hge hb1 HOF HROW HB1 HRG hz1' HN hL
  go_wp2
  generalize hrb : w.heap.size = rb at *
  go_loopw [5, 6, 7] (fun av tv kv wr => ∃ (i : Nat), i ≤ 12 ∧ kv = .int .i64 i ∧ Hid (Sb w rb tb L i av tv wr)) (fun _ _ kv _ => 12 - (intOf kv).toNat)
  case atStart => exact ⟨0, by omega, rfl, HS0⟩
  case round =>
    obtain ⟨i, hi, rfl, hh⟩ := hrel
    obtain ⟨c, T, X, idx, hd, hX, hXl, hTl, hSm, hidx, hbw⟩ := hh.out
    obtain ⟨Aa, na, ca, rfl, hka⟩ := hd.all.1.shape
    obtain ⟨At, nt, ct, rfl, hkt⟩ := hd.tgs.1.shape
    clear hh
    by_cases hi12 : i < 12
    · have hi1 : (i : Int) < 12 := by omega
      have HTY := Lib.hid (typeO_any tb idx L wr hd.ts HF.out (by omega))
      obtain ⟨hck, hl0, hl4⟩ := made_chk L idx
      have hidn := typN_le (L := L) (i := idx)
      generalize typN L idx = idx' at *
      obtain ⟨⟨n, l⟩, htv⟩ : ∃ p, typV L idx = p := ⟨_, rfl⟩
      rw [htv] at HTY hck hl0 hl4
      simp only at hck hl0 hl4
      have HD := Lib.hid hd
      have HX := Lib.hid hX
      have HBW := Lib.hid hbw
      have HXL := Lib.hid hXl
      have HSM := Lib.hid hSm
      have HCK := Lib.hid hck
      clear hd hX hXl hSm hbw htv hck hka hkt
      go_wp2_with fail
      refine HTY.out.mono ?_
      rintro e w3 ⟨A, m, cc, rfl, hown, hts3, ho3⟩
      have hd3 := HD.out.read ho3 hts3
      have hk3 : Kept c 4 wr w3 := Kept.ofOth ho3 ((HD.out.low tb (Nat.le_refl _)).trans (ci_t HD.out.lt))
      have HB3 : Hid (Below w.heap.size w w3) := Lib.hid (HD.out.kept_ hk3 HBW.out (by omega) (by omega))
      have hb4 : Below w3.heap.size w3 (w3.alloc (.cells #[.int .i64 n, .slice A m cc] 35)) := (Below.refl _ _).alloc (Nat.le_refl _) _
      have HD4 := Lib.hid (hd3.go hb4)
      have HT4 := Lib.hid (TyB.new (w := w3) (n := n) (A := A) (m := m) (c := cc))
      have HE3 : Hid (Ex0 w3 (rc c wr.heap.size 0) A m cc l) := Lib.hid ⟨hown.exs, fun a ha => ⟨(hown.at0 ha).2.1, rc_new (hown.at0 ha).1⟩⟩
      have HE4 := Lib.hid (HE3.out.kept (j := 1) (c' := rc c wr.heap.size 0) (Kept.ofBelow hb4) (by omega) (fun _ _ => rfl))
      have HB4 := Lib.hid (Below.then HB3.out hb4 (Nat.le_refl _))
      have hml : l.length = m := hown.exs.len
      have HSZ := Lib.hid ho3.size
      clear hown hts3 ho3 hk3 hd3 hb4 HTY HD HBW HB3 HE3
      have hT11 : T.length ≤ 11 := by omega
      have HREG := Lib.hid (register_any _ _ 2 0 rb T n A m cc l HD4.out.reg (by omega) (Nat.zero_le _) HE4.out.1 (by omega) (by omega))
      obtain ⟨g1, g2, g3, g4⟩ := rg_known (T := T) (x := (n, l)) HCK.out (by omega)
      have HSM5 := Lib.hid (HSM.out.rg (x := (n, l)) (by simp only; omega))
      have htl := HT4.out.lt
      have c0 := HT4.out.cell0
      have c1 := HT4.out.cell1
      have HG := Lib.hid (And.intro g2 (And.intro g3 g4))
      have hbx : wr.heap.size ≤ w3.heap.size := HSZ.out
      clear hl0 g2 g3 g4
      go_wp2_with fail
      refine HREG.out.mono ?_
      generalize w3.alloc (.cells #[.int .i64 n, .slice A m cc] 35) = w4 at *
      generalize w3.heap.size = bx at *
      rintro e w5 ⟨c5, rfl, hc5, hr5, hk5⟩
      rw [g1]
      obtain ⟨G, hG⟩ : ∃ G, ixT (n, l) (rgT T (n, l)) + 1 = G := ⟨_, rfl⟩
      rw [hG]
      have HGG := Lib.hid hG
      have hd5 := HD4.out.regd hc5 hr5 hk5
      have HE5 := Lib.hid (HE4.out.kept hk5 (by omega) hc5)
      have HT5 := Lib.hid (hk5.tyb HT4.out (by rw [rc_new hbx]; omega))
      have HB5 : Hid (Below w.heap.size w w5) := Lib.hid (HD4.out.kept_ hk5 HB4.out (by omega) (by omega))
      generalize rgT T (n, l) = T' at *
      have htg : tg T X = tg T' X := (tg_same fun r hr => (HG.out.2.1 r.t (HX.out r hr).1).2).symm
      rw [htg] at hd5
      have HX5 : Hid (∀ r ∈ X, r.t ∈ T' ∧ r.l.length ≤ 4) := Lib.hid (fun r hr => ⟨(HG.out.2.1 r.t (HX.out r hr).1).1, (HX.out r hr).2⟩)
      have hb6 : Below w5.heap.size w5 (w5.alloc (.cells #[.int .i64 n, .slice A m cc] 35)) := (Below.refl _ _).alloc (Nat.le_refl _) _
      have HD6 := Lib.hid (hd5.go hb6)
      have HE6 := Lib.hid (HE5.out.kept (j := 1) (c' := c5) (Kept.ofBelow hb6) (by omega) (fun _ _ => rfl))
      have HB6 : Hid (Below w.heap.size w (w5.alloc (.cells #[.int .i64 n, .slice A m cc] 35))) := Lib.hid (Below.then HB5.out hb6 (Nat.le_refl _))
      have HKW := Lib.hid (Kws.new (E := tyE) w5 [⟨n, A, m, cc, l⟩] #[.int .i64 n, .slice A m cc] 35 1 rfl rfl (by unfold maxLen; omega))
      have d0 := HT5.out.cell0
      have d1 := HT5.out.cell1
      clear hc5 hr5 hk5 hd5 hb6 htg hG g1 HD4 HE4 HT4 HB4 HREG HX HE5 HT5 HB5 c0 c1 htl hbx HSZ
      go_wp2_with
        (at_builtin
         first
           | (refine wpList_appK (E := tyE) (w5.alloc (.cells #[.int .i64 n, .slice A m cc] 35)) rfl (.tmp 32) (.tmp 34) 23 rfl Try.underlying23 HI.out HZ.out rfl hz1 (by omega) HD6.out.all.1 rfl HKW.out rfl (by have := HXL.out; omega) (Nat.zero_le _) ?_
              intro v6 w6 ho6 hb6 hg6
              obtain ⟨A6, n6, c6, rfl, hx6⟩ := ho6.shape
              have HD7 := Lib.hid (HD6.out.app HE6.out ho6 hg6.1 hg6.2)
              have HB7 : Hid (Below w.heap.size w w6) := Lib.hid (HD6.out.kept_ (Kept.ofGrown hg6.1 HD6.out.all.2) HB6.out (by omega) (by omega))
              have hb8 : Below w6.heap.size w6 (w6.alloc (.cells #[.int .i64 G] 3)) := (Below.refl _ _).alloc (Nat.le_refl _) _
              have HD8 := Lib.hid (HD7.out.go hb8)
              have HB8 : Hid (Below w.heap.size w (w6.alloc (.cells #[.int .i64 G] 3))) := Lib.hid (Below.then HB7.out hb8 (Nat.le_refl _))
              have HKI := Lib.hid (Kws.new (E := int1) w6 [G] #[.int .i64 G] 3 1 rfl rfl (by unfold maxLen; omega))
              clear ho6 hb6 hg6 hx6 hb8)
           | (refine wpList_appK (E := int1) (w6.alloc (.cells #[.int .i64 G] 3)) rfl (.tmp 36) (.tmp 38) 58 rfl Try.underlying58 HIT.out HZT.out rfl hy1 (by omega) HD8.out.tgs.1 rfl HKI.out rfl (by have := HXL.out; rw [tg_len]; omega) (Nat.zero_le _) ?_
              intro v7 w7 ho7 hb7 hg7
              obtain ⟨A7, n7, c7, rfl, hx7⟩ := ho7.shape
              have hd9 := HD8.out.tag ho7 hg7.1 hg7.2
              have HB9 : Hid (Below w.heap.size w w7) := Lib.hid (HD8.out.kept_ (Kept.ofGrown hg7.1 HD8.out.tgs.2) HB8.out (by omega) (by omega))
              have HD9 : Hid (∃ c, Sd rb tb L w7 c T' (X ++ [⟨n, A, m, cc, l⟩]) idx' (.slice A6 n6 c6) (.slice A7 n7 c7) (tg T' (X ++ [⟨n, A, m, cc, l⟩]))) := Lib.hid ⟨_, by
                have e : tg T' (X ++ [⟨n, A, m, cc, l⟩]) = tg T' X ++ [G] := by
                  unfold tg
                  rw [List.map_append]
                  simp only [List.map_cons, List.map_nil]
                  rw [← HGG.out]
                  rfl
                rw [e]
                exact hd9⟩
              clear ho7 hb7 hg7 hx7 hd9))
      go_roundw
      case rel => exact ⟨i + 1, by omega, by go_num, Lib.hid (by
        obtain ⟨c9, hd9⟩ := HD9.out
        refine ⟨c9, T', X ++ [⟨n, A, m, cc, l⟩], idx', hd9, fun r hr => ?_, by rw [List.length_append, HXL.out]; rfl, by have := HG.out.2.2; omega, HSM5.out, by omega, HB9.out⟩
        rcases List.mem_append.1 hr with h | h
        · exact HX5.out r h
        · simp only [List.mem_singleton] at h
          subst h
          exact ⟨HG.out.1, hl4⟩)⟩
      case measure => simp [intOf]; omega
    · obtain rfl : i = 12 := by omega
      have hi1 : ¬ ((12 : Nat) : Int) < 12 := by omega
      obtain ⟨wA, rfl⟩ : ∃ wA, wA = wr := ⟨_, rfl⟩
      have HR := Lib.hid hd.reg
      have HFL : Hid (∀ r ∈ X, Exs wA wA.heap.size r.A r.m r.c r.l) := Lib.hid (fun r hr => (hd.flds r hr).1)
      have HKA := Lib.hid hka
      have HKT := Lib.hid hkt
      have hna : na = 12 := by rw [← hka.len, hXl]
      have hnt : nt = 12 := by rw [← hkt.len, tg_len, hXl]
      subst hna hnt
      have hcap1 := hka.cap
      have hsm1 := hka.small
      have hcap2 := hkt.cap
      have hsm2 := hkt.small
      unfold maxLen at hsm1 hsm2
      have HX := Lib.hid hX
      have HSM := Lib.hid hSm
      have HBW := Lib.hid hbw
      have hT12 : T.length ≤ 12 := hTl
      clear hd hX hXl hTl hSm hidx hbw hka hkt
      go_wp2
      go_loopw [42] (fun kv wr => ∃ (j : Nat), j ≤ 12 ∧ kv = .int .i64 j ∧ Hid (Below wA.heap.size wA wr)) (fun kv _ => 12 - (intOf kv).toNat)
      case atStart => exact ⟨0, by omega, rfl, Lib.hid (Below.refl _ _)⟩
      case round =>
        obtain ⟨j, hj, rfl, hh⟩ := hrel
        by_cases hj12 : j < 12
        · have hj1 : (j : Int) < 12 := by omega
          obtain ⟨b, o, r, hr, rfl, hbb, q0, q1⟩ := (HKA.out.go hh.out).ty hj12
          obtain ⟨b', o', x, hx, rfl, hbb', q2⟩ := (HKT.out.go hh.out).int hj12
          obtain rfl : x = ixT r.t T + 1 := by
            rw [tg_at hr] at hx
            exact (Option.some.inj hx).symm
          have hrm := List.mem_of_getElem? hr
          have hrt := (HX.out r hrm).1
          have hix := ixT_lt hrt
          have HLK := Lib.hid (lookup_any (ixT r.t T + 1) wr c 2 0 rb T (HR.out.go hh.out) (by omega) HSM.out ⟨by omega, by omega⟩)
          rw [(lk_known hrt).1, (lk_known hrt).2] at HLK
          have HRX := Lib.hid ((HFL.out r hrm).go hh.out)
          have HRT := Lib.hid hrt
          have HRR := Lib.hid hr
          have HB0 := hh
          have HQ := Lib.hid (And.intro q0 q1)
          clear hx hr hrm hrt hh hbb hbb' q0 q1
          obtain ⟨gj, hgj⟩ : ∃ g, ixT r.t T + 1 = g := ⟨_, rfl⟩
          rw [hgj] at q2 HLK
          have HGJ := Lib.hid hgj
          have HQ2 := Lib.hid q2
          clear hgj hix
          obtain ⟨rn, rA, rm, rcap, rl⟩ := r
          simp only [Ty.t] at HLK HRX HRT HGJ HQ
          go_wp2_with fail
          refine HLK.out.mono ?_
          rintro e w3 ⟨A3, m3, c3, rfl, ho3, hb3⟩
          simp only at ho3
          have hb4 : Below wr.heap.size wr (w3.alloc (.cells #[.int .i64 rn, .slice A3 m3 c3] 35)) := hb3.alloc hb3.size _
          have HT4 := Lib.hid (TyB.new (w := w3) (n := rn) (A := A3) (m := m3) (c := c3))
          have HX4 := Lib.hid (ho3.exs.go ((Below.refl w3.heap.size w3).alloc (Nat.le_refl _) (.cells #[.int .i64 rn, .slice A3 m3 c3] 35)))
          have HRX4 := Lib.hid (HRX.out.go hb4)
          have HQ4 : Hid ((w3.alloc (.cells #[.int .i64 rn, .slice A3 m3 c3] 35)).cell? ⟨b, o + j * 2, none⟩ = some (.int .i64 rn) ∧ (w3.alloc (.cells #[.int .i64 rn, .slice A3 m3 c3] 35)).cell? ⟨b, o + j * 2 + 1, none⟩ = some (.slice rA rm rcap)) :=
            Lib.hid ⟨(hb4.cell (p := ⟨b, o + j * 2, none⟩) (lt_of_some HQ.out.1)).trans HQ.out.1, (hb4.cell (p := ⟨b, o + j * 2 + 1, none⟩) (lt_of_some HQ.out.2)).trans HQ.out.2⟩
          have HB4 := Lib.hid (Below.then HB0.out hb4 (Nat.le_refl _))
          clear ho3 hb3 hb4 HLK HRX q2 HQ HB0 HQ2
          go_wp2_with fail
          generalize w3.alloc (.cells #[.int .i64 rn, .slice A3 m3 c3] 35) = w4 at *
          generalize w3.heap.size = ub at *
          have a0 : ∀ q : Later w4, q.val.cell? ⟨ub, 0, none⟩ = some (.int .i64 rn) := fun q => later_old q HT4.out.cell0
          have a1 : ∀ q : Later w4, q.val.cell? ⟨ub, 1, none⟩ = some (.slice A3 m3 c3) := fun q => later_old q HT4.out.cell1
          have a2 : ∀ q : Later w4, q.val.cell? ⟨b, o + j * 2, none⟩ = some (.int .i64 rn) := fun q => later_old q HQ4.out.1
          have a3 : ∀ q : Later w4, q.val.cell? ⟨b, o + j * 2 + 1, none⟩ = some (.slice rA rm rcap) := fun q => later_old q HQ4.out.2
          have HS := Lib.hid (fun q : Later w4 => sameType_any rn rn A3 rA m3 rm c3 rcap rl rl q.val (HX4.out.go q.2) (HRX4.out.go q.2))
          rw [eqT_self] at HS
          refine wp_region_later (by kernel_rfl) (by kernel_rfl) ?_
          repeat (go_big_quiet_step (first | (go_at_call 18; exact Calls.later (HS.out _))))
          refine wpQuiet_nil ?_
          rintro w7 ⟨⟨_, hq⟩, rfl⟩
          have HB7 := Lib.hid (Below.then HB4.out hq (Nat.le_refl _))
          clear hq HS a0 a1 a2 a3 HT4 HX4 HRX4 HQ4 HB4
          go_wp2
          obtain ⟨wB, rfl⟩ : ∃ wB, wB = wr := ⟨_, rfl⟩
          go_loopw [67] (fun kv wr => ∃ (k : Nat), k ≤ 12 ∧ kv = .int .i64 k ∧ Hid (Below wA.heap.size wA wr)) (fun kv _ => 12 - (intOf kv).toNat)
          case atStart => exact ⟨0, by omega, rfl, HB7⟩
          case round =>
            obtain ⟨k, hk, rfl, hh⟩ := hrel
            by_cases hk12 : k < 12
            · have hk1 : (k : Int) < 12 := by omega
              obtain ⟨b1, o1, s, hs, e1, _, p0, p1⟩ := (HKA.out.go hh.out).ty hk12
              obtain ⟨b2, o2, x, hx, e2, _, p2⟩ := (HKT.out.go hh.out).int hk12
              obtain ⟨b3, o3, r3, hr3, e3, _, q0, q1⟩ := (HKA.out.go hh.out).ty hj12
              obtain ⟨b4, o4, y, hy, e4, _, q2⟩ := (HKT.out.go hh.out).int hj12
              cases e1
              cases e2
              cases e3
              cases e4
              obtain rfl : x = ixT s.t T + 1 := by
                rw [tg_at hs] at hx
                exact (Option.some.inj hx).symm
              have hr4 := HRR.out
              rw [hr3] at hr4
              cases hr4
              obtain rfl : y = gj := by
                rw [tg_at hr3] at hy
                rw [← HGJ.out]
                exact (Option.some.inj hy).symm
              have hsm := List.mem_of_getElem? hs
              have hrx := (HFL.out _ (List.mem_of_getElem? hr3)).go hh.out
              have hsx := (HFL.out s hsm).go hh.out
              have HIJ := Lib.hid (ix_inj HRT.out (HX.out s hsm).1)
              obtain ⟨gk, hgk⟩ : ∃ g, ixT s.t T + 1 = g := ⟨_, rfl⟩
              rw [hgk] at p2
              have HGK := Lib.hid hgk
              obtain ⟨sn, sA, sm, scap, sl⟩ := s
              simp only [Ty.t] at HIJ HGK p0 p1 hsx q0 q1 hrx
              have HS := Lib.hid (fun q : Later wr => sameType_any rn sn rA sA rm sm rcap scap rl sl q.val (hrx.go q.2) (hsx.go q.2))
              have a0 : ∀ q : Later wr, q.val.cell? ⟨b', o' + j, none⟩ = some (.int .i64 y) := fun q => later_old q q2
              have a1 : ∀ q : Later wr, q.val.cell? ⟨b', o' + k, none⟩ = some (.int .i64 gk) := fun q => later_old q p2
              have a2 : ∀ q : Later wr, q.val.cell? ⟨b, o + j * 2, none⟩ = some (.int .i64 rn) := fun q => later_old q q0
              have a3 : ∀ q : Later wr, q.val.cell? ⟨b, o + j * 2 + 1, none⟩ = some (.slice rA rm rcap) := fun q => later_old q q1
              have a4 : ∀ q : Later wr, q.val.cell? ⟨b, o + k * 2, none⟩ = some (.int .i64 sn) := fun q => later_old q p0
              have a5 : ∀ q : Later wr, q.val.cell? ⟨b, o + k * 2 + 1, none⟩ = some (.slice sA sm scap) := fun q => later_old q p1
              clear hs hx hr3 hy hsm hrx hsx hgk p0 p1 p2 q0 q1 q2
              go_wp2
              by_cases he : (rn, rl) = (sn, sl)
              · obtain rfl : y = gk := by rw [← HGJ.out, ← HGK.out, he]
                obtain ⟨rfl, rfl⟩ : rn = sn ∧ rl = sl := by injection he; exact ⟨by assumption, by assumption⟩
                rw [eqT_self] at HS
                clear he HGJ HGK HIJ
                refine wp_region_later (by kernel_rfl) (by kernel_rfl) ?_
                repeat (go_big_quiet_step (first | (go_at_call 18; exact Calls.later (HS.out _))))
                refine wpQuiet_nil ?_
                rintro w7 ⟨⟨_, hq⟩, rfl⟩
                have HB8 := Lib.hid (Below.then hh.out hq (Nat.le_refl _))
                clear hq HS a0 a1 a2 a3 a4 a5
                go_wp2
                go_roundw
                case rel => exact ⟨k + 1, by omega, by go_num, HB8⟩
                case measure => simp [intOf]; omega
              · have hne : ¬ y = gk := fun e => he (HIJ.out.1 (by rw [HGJ.out, HGK.out, e]))
                have het : eqT rn sn rl sl = false := by
                  unfold eqT
                  rw [decide_eq_false_iff_not]
                  rintro ⟨rfl, rfl⟩
                  exact he rfl
                rw [het] at HS
                have hneb : (y == gk) = false := by simpa using hne
                clear he HGJ HGK HIJ het
                refine wp_region_later (by kernel_rfl) (by kernel_rfl) ?_
                repeat (go_big_quiet_step (first | (go_at_call 18; exact Calls.later (HS.out _))))
                refine wpQuiet_nil ?_
                rintro w7 ⟨⟨_, hq⟩, rfl⟩
                have HB8 := Lib.hid (Below.then hh.out hq (Nat.le_refl _))
                clear hq HS a0 a1 a2 a3 a4 a5
                go_wp2
                go_roundw
                case rel => exact ⟨k + 1, by omega, by go_num, HB8⟩
                case measure => simp [intOf]; omega
            · obtain rfl : k = 12 := by omega
              have hk1 : ¬ ((12 : Nat) : Int) < 12 := by omega
              go_wp2
              go_roundw
              case rel => exact ⟨j + 1, by omega, by go_num, hh⟩
              case measure => simp [intOf]; omega
        · obtain rfl : j = 12 := by omega
          have hj1 : ¬ ((12 : Nat) : Int) < 12 := by omega
          go_wp2_with fail
          refine (awake10_any wr).mono ?_
          rintro e w5 ⟨rfl, hb5⟩
          have HB5 := Lib.hid (Below.then HBW.out (Below.then hh.out hb5 (Nat.le_refl _)) (by have := HBW.out.size; omega))
          clear hb5 hh
          go_wp2
          go_ret
          exact ⟨rfl, HB5.out⟩
end Go.Proofs.Ytgddlpabgeeflaa
