/-
  The law AuditGap as a walk over any log that keeps the bundle. Conditions: the bundle.
-/
import Derived.Test.YtlgoiccekgjhnaaAgwLaw
namespace Go.Proofs.Ytlgoiccekgjhnaa
open Go.ChangeShapes Go.WideShapes Go.ChangeAt Go.RowKit
set_option linter.unusedVariables false
set_option linter.unusedSimpArgs false
set_option maxHeartbeats 8000000
set_option maxRecDepth 100000

/-- A cut from the left, and where it lies. -/
theorem cut_lo2 (A : Option Addr) (n c k : Nat) (l : List Int) (hk : k ≤ n) (hc : n ≤ c) :
    ∃ A', (∀ wx : World, (Instr.slice 52 (.slice A n c) (some (.int .i64 (k : Int))) none none).run Try.prog wx = .ok (.slice A' (n - k) (c - k)) wx) ∧ (∀ (w : World) (B : Nat), Bts w B A n c l → Bts w B A' (n - k) (c - k) (l.drop k)) ∧ ∀ a, A' = some a → ∃ a', A = some a' ∧ a'.block = a.block := by
  refine ⟨if c = k then A else A.map (·.add k), fun wx => ?_, fun w B h => h.drop hk, fun a ha => ?_⟩
  · rw [run_slice_l (P := Try.prog) wx 52 A n c Try.underlying52 .i64 (k : Int) (by omega) (by omega)]
    simp [sliced, go_sem]
  · by_cases hck : c = k
    · rw [if_pos hck] at ha
      exact ⟨a, ha, rfl⟩
    · rw [if_neg hck] at ha
      cases A with
      | none => cases ha
      | some a0 =>
        cases ha
        exact ⟨a0, rfl, by unfold Addr.add; split <;> rfl⟩
/-- Slices of bytes in blocks of the colour 0. -/
def Pts (w : World) (c : Nat → Nat) (rs : List Rec) : Prop := ∀ r ∈ rs, Bts w w.heap.size r.A r.n r.c r.l ∧ Small r.l ∧ r.n ≤ 60 ∧ ∀ a, r.A = some a → c a.block = 0 ∧ ∃ cs, w.heap[a.block]? = some (.cells cs 5 (0, 0))
section
variable {w w' : World} {c c' : Nat → Nat} {rs ss : List Rec}
theorem Bts.heap {B n cp : Nat} {A : Option Addr} {l : List Int} (h : Bts w B A n cp l) (hh : ∀ a, A = some a → w'.heap[a.block]? = w.heap[a.block]?) : Bts w' B A n cp l :=
  ⟨h.len, h.cap, h.small, h.nil, fun hn => by
    obtain ⟨b, o, e, hb, hc⟩ := h.cells hn
    refine ⟨b, o, e, hb, fun i hi => ?_⟩
    have h1 := hc i hi
    simp only [World.cell?] at h1 ⊢
    rw [hh _ e]
    exact h1⟩
theorem Pts.step (h : Pts w c rs) (hz : w.heap.size ≤ w'.heap.size) (hc : ∀ g, g < w.heap.size → c' g = c g) (hk : ∀ g cs, c g = 0 → w.heap[g]? = some (.cells cs 5 (0, 0)) → w'.heap[g]? = w.heap[g]?) : Pts w' c' rs := fun r hr => by
  obtain ⟨h1, h2, h3, h4⟩ := h r hr
  refine ⟨(h1.heap (fun a ha => ?_)).more hz, h2, h3, fun a ha => ?_⟩
  · obtain ⟨h5, cs, h6⟩ := h4 a ha
    exact hk _ cs h5 h6
  · obtain ⟨h5, cs, h6⟩ := h4 a ha
    exact ⟨by rw [hc _ (Array.getElem?_eq_some_iff.1 h6).1]; exact h5, cs, by rw [hk _ cs h5 h6]; exact h6⟩
theorem Pts.app (h : Pts w c rs) (h' : Pts w c ss) : Pts w c (rs ++ ss) := fun r hr => (List.mem_append.1 hr).elim (h r) (h' r)
end
section
variable {Lg : LgP} (C : AuC Lg)
include C
theorem auditGap_all (a0 : Option Addr) (len0 cap0 : Nat) (z0 : List Int) (a1 a2 : Int) (w : World) (w0 : IsRow .u16 w a0 len0 cap0 z0) (w1 : (Lit.int .u8 a1).wf = true) (w2 : (Lit.int .u8 a2).wf = true) :
    Calls Try.prog 10 #[.slice a0 len0 cap0, .int .u8 a1, .int .u8 a2] w fun e w' => e = .returned (.bool true) ∧ Below w.heap.size w w' := by
  obtain ⟨ie, hie, hz0, hz1, hz2⟩ := info_parts infoSl
  obtain ⟨i8, hi8, hy0, hy1, hy2⟩ := info_parts info8
  have HI8 := Lib.hid hi8
  have HY0 := Lib.hid hy0
  have HY1 := Lib.hid hy1
  have HY2 := Lib.hid hy2
  have HIE := Lib.hid hie
  have HZ0 := Lib.hid hz0
  have HZ1 := Lib.hid hz1
  have HZ2 := Lib.hid hz2
  obtain ⟨hrow, hfit⟩ := w0.row
  generalize z0.take len0 = T0 at hrow hfit
  have HOF := Lib.hid (of_any a0 len0 cap0 T0 100 w hrow (by omega))
  have HFT := Lib.hid (hfit.take 100)
  have htl : (T0.take 100).length ≤ 900 := by rw [List.length_take]; omega
  generalize T0.take 100 = T at *
  obtain ⟨b10, b11⟩ := byte_bd w1
  obtain ⟨b20, b21⟩ := byte_bd w2
  have s0 : 0 ≤ a1 % 6 := Int.emod_nonneg _ (by omega)
  have s1 : a1 % 6 < 6 := Int.emod_lt_of_pos _ (by omega)
  have e4 : IntKind.i64.wrap (2 + a1 % 6) = 2 + a1 % 6 := IntWalk.i64_in _ (by omega)
  obtain ⟨mst, hms⟩ := Int.eq_ofNat_of_zero_le (show 0 ≤ 2 + a1 % 6 by omega)
  have hm7 : mst ≤ 7 := by omega
  have HTL := Lib.hid htl
  clear w0 w1 w2 hrow hfit htl hie hz0 hz1 hz2 hi8 hy0 hy1 hy2
  go_enter Try.func10, Try.ntmps10
  go_wp2_with fail
  refine HOF.out.mono ?_
  rintro e w2 ⟨b, rfl, hts2, hge, hb2⟩
  have HEV := Lib.hid (evs_made (w0 := w) (most := mst) hts2 hge hb2 HFT.out HTL.out (by omega))
  clear hts2 hb2 HOF hge
  go_wp2_with fail
  first | rw [hms] | skip
  clear hms s0 s1 e4
  refine HEV.out.mono ?_
  rintro e w3 ⟨v3, l, rfl, hgl, hll, hov, hb3⟩
  obtain ⟨A, n, cp, rfl, hk3⟩ := hov.shape
  have hcapn := hk3.cap
  have hsmn := hk3.small
  have hlen := hk3.len
  unfold maxLen at hsmn
  have HB3 := Lib.hid hb3
  have HK3 := Lib.hid hk3
  have HGL := Lib.hid hgl
  have hn7 : n ≤ 7 := by omega
  clear HEV hgl hov hb3 hk3
  by_cases hn2 : n < 2
  · have hn2i : (n : Int) < 2 := by omega
    go_wp2_with fail
    refine (aw17_any C w3).mono ?_
    rintro e w4 ⟨rfl, hb4⟩
    have HB4 := Lib.hid (Below.then HB3.out hb4 (Nat.le_refl _))
    clear hb4
    go_wp2
    go_ret
    exact ⟨rfl, HB4.out⟩
  · have hn2i : 2 ≤ (n : Int) := by omega
    have e5 : IntKind.i64.wrap ((n : Int) - 1) = (n : Int) - 1 := IntWalk.i64_in _ (by omega)
    have hk0 : 0 ≤ a2 % ((n : Int) - 1) := Int.emod_nonneg _ (by omega)
    have hk1 : a2 % ((n : Int) - 1) < (n : Int) - 1 := Int.emod_lt_of_pos _ (by omega)
    have hrem : a2.tmod ((n : Int) - 1) = a2 % ((n : Int) - 1) := Int.tmod_eq_emod_of_nonneg (by omega)
    have hz : ¬ (n : Int) - 1 = 0 := by omega
    obtain ⟨kk, hkk⟩ : ∃ kk, a2 % ((n : Int) - 1) = kk := ⟨_, rfl⟩
    rw [hkk] at hrem hk0 hk1
    have HN := Lib.hid (C.newOk 100 w3 (fun _ => 0) 1 (by omega) (by omega))
    clear hkk
    go_wp2_with fail
    refine HN.out.mono ?_
    rintro e w4 ⟨p, rfl, hp, hL, hb4⟩
    have HST : Hid (∃ c L rs, Al Lg w3 c p 100 L [] w4 ∧ OwD 0 w3.heap.size sl1 52 w4 c (.slice none 0 0) rs ∧ Pts w4 c rs ∧ Goods L ∧ L.length = 0 ∧ rs.length = 0) :=
      Lib.hid ⟨_, [], [], ⟨fun g hg => rc_old hg, hb4, hL⟩, OwD.nil, (fun r hr => by (cases hr)), Goods.nil, rfl, rfl⟩
    clear HN hp hL hb4 hrem e5 hz
    go_wp2
    go_loopw [11, 45] (fun pv kv wr => ∃ i : Nat, i ≤ n ∧ kv = .int .i64 i ∧ ∃ A4 c4, pv = .slice A4 i c4 ∧ Hid (∃ c L rs, Al Lg w3 c p 100 L [] wr ∧ OwD 0 w3.heap.size sl1 52 wr c (.slice A4 i c4) rs ∧ Pts wr c rs ∧ Goods L ∧ L.length = i ∧ rs.length = i)) (fun _ kv _ => n - (intOf kv).toNat)
    case atStart => exact ⟨0, Nat.zero_le _, rfl, none, 0, rfl, HST⟩
    case round =>
      obtain ⟨i, hi, rfl, A4, c4, rfl, hh⟩ := hrel
      obtain ⟨c, L, rs, hA, hP, hQ, hG, hLl, hRl⟩ := hh.out
      clear HST
      by_cases hin : i < n
      · have hi1 : (i : Int) < (n : Int) := by omega
        obtain ⟨bb, ob, x, hx, rfl, hbb, g0, g1, g2, g3, g4⟩ := (HK3.out.below hA.2.1).ev_ hin
        have hgx := HGL.out x (List.mem_of_getElem? hx)
        obtain ⟨xp, xo, xh, xa, xe⟩ := x
        simp only at g0 g1 g2 g3 g4
        have hb4 : Below wr.heap.size wr (wr.alloc (.cells #[.int .i64 xp, .int .i64 xo, .int .u64 xh, .int .u64 xa, .int .i64 xe] 27)) := (Below.refl _ _).alloc (Nat.le_refl _) _
        obtain ⟨k4, hA4, hold4, hnew4⟩ := Al.go C hA hb4
        have hx4 := EvB.new (w := wr) (p := xp) (o := xo) (h := xh) (a := xa) (e := xe)
        have HX4 := Lib.hid hx4
        have HZ4 := Lib.hid (hnew4 wr.heap.size (Nat.le_refl _))
        have HP4 := Lib.hid (hP.go hb4 hold4)
        have HQ4 := Lib.hid (hQ.step hb4.size hold4 (fun g cs _ hg => hb4.block g (Array.getElem?_eq_some_iff.1 hg).1))
        have HBY := Lib.hid (C.bytes hA4.2.2 (by omega) hG)
        have HA4 := Lib.hid hA4
        have HG := Lib.hid hG
        have HGX := Lib.hid hgx
        have HLB := Lib.hid (lgB_len (d := start) hG).1
        unfold Made at HBY
        clear hh hA hP hQ hG hx hbb hgx hb4 hA4 hold4 hnew4 hx4
        go_wp2_with fail
        generalize wr.alloc (.cells #[.int .i64 xp, .int .i64 xo, .int .u64 xh, .int .u64 xa, .int .i64 xe] 27) = w4 at *
        generalize wr.heap.size = tr at *
        refine HBY.out.mono ?_
        rintro e w5 ⟨v5, rfl, ho5, hb5⟩
        obtain ⟨A5, n5, c5, rfl, hr5⟩ := ho5.shape
        have hn5 : (lgB start L).length = n5 := hr5.len
        have hn59 : n5 ≤ 420 := by have := HLB.out; omega
        obtain ⟨k5, hA5, hold5, hnew5⟩ := Al.go C HA4.out hb5
        have HP5 := Lib.hid (HP4.out.go hb5 hold5)
        have HQ5 := Lib.hid (HQ4.out.step hb5.size hold5 (fun g cs _ hg => hb5.block g (Array.getElem?_eq_some_iff.1 hg).1))
        have hx5 := HX4.out.go hb5
        obtain ⟨q0, q1, q2, q3, q4⟩ := hx5.cells
        have hap : apE 100 L ⟨xp, xo, xh, xa, xe⟩ = 0 := apE_ok HGX.out.1 (by have := rcN_le L xp; simp only; omega)
        have HAP := Lib.hid (Al.append C ⟨xp, xo, xh, xa, xe⟩ hA5 (by omega) HGX.out.2)
        rw [hap, apL_ok hap] at HAP
        have HN5 := Lib.hid hn5
        clear ho5 hr5 hb5 hA5 hold5 hnew5 HBY HA4 HP4 HQ4 HX4 HZ4 hap hx5 hn5
        go_wp2_with fail
        refine HAP.out.mono ?_
        rintro e w6 ⟨rfl, k6, hA6, hk6, hold6⟩
        have HP6 := Lib.hid (HP5.out.kept hk6 (by omega) hold6)
        have HQ6 := Lib.hid (HQ5.out.step hk6.size hold6 (fun g cs h0 hg => hk6.block g (Array.getElem?_eq_some_iff.1 hg).1 (by omega)))
        have HG6 := Lib.hid (HG.out.app (Goods.one HGX.out))
        have HLS := Lib.hid (lgB_snoc start L ⟨xp, xo, xh, xa, xe⟩)
        have HRL := Lib.hid (rcd_len (d := lgD start L) HGX.out)
        have HEL := Lib.hid HGX.out.len
        have HBY := Lib.hid (C.bytes hA6.2.2 (by simp; omega) HG6.out)
        have HRS : Hid (Small (rcd (lgD start L) ⟨xp, xo, xh, xa, xe⟩)) := Lib.hid rcd_small
        have HA6 := Lib.hid hA6
        unfold Made at HBY
        rw [HLS.out] at HBY
        generalize rcd (lgD start L) ⟨xp, xo, xh, xa, xe⟩ = rx at *
        generalize eo ⟨xp, xo, xh, xa, xe⟩ = ex at *
        clear hA6 hk6 hold6 HAP HP5 HQ5 q0 q1 q2 q3 q4 g0 g1 g2 g3 g4
        go_wp2_with fail
        refine HBY.out.mono ?_
        rintro e w7 ⟨v7, rfl, ho7, hb7⟩
        obtain ⟨A7, n7, c7, rfl, hr7⟩ := ho7.shape
        have hn7' : n7 = n5 + rx.length := by
          have h1 := hr7.len
          rw [List.length_append] at h1
          have := HN5.out
          omega
        have hrx : rx.length ≤ 59 := by have := HRL.out; have := HEL.out; omega
        have hcap7 := hr7.cap
        have hsm7 := hr7.small
        unfold maxLen at hsm7
        subst hn7'
        obtain ⟨k7, hA7, hold7, hnew7⟩ := Al.go C HA6.out hb7
        obtain ⟨A8, hsl, hcut, hadr⟩ := cut_lo2 A7 (n5 + rx.length) c7 n5 (lgB start L ++ rx) (by omega) hcap7
        rw [show n5 + rx.length - n5 = rx.length by omega] at hsl hcut
        have hdr : (lgB start L ++ rx).drop n5 = rx := by rw [← HN5.out]; simp
        rw [hdr] at hcut
        have hQ7 : Pts w7 k7 (rs ++ [⟨A8, rx.length, c7 - n5, rx⟩]) := by
          refine (HQ6.out.step hb7.size hold7 (fun g cs _ hg => hb7.block g (Array.getElem?_eq_some_iff.1 hg).1)).app (fun r hr => ?_)
          rw [List.mem_singleton] at hr
          subst hr
          refine ⟨hcut _ _ hr7, HRS.out, by simp only; omega, fun a ha => ?_⟩
          obtain ⟨a', ha', hab⟩ := hadr a ha
          have hob : (Value.slice A7 (n5 + rx.length) c7).ownBlock = some a.block := by
            rcases ho7.2 with ⟨e, _⟩ | ⟨g, cap, cur, e, _⟩
            · injection e with e1
              rw [ha'] at e1
              cases e1
            · injection e with e1
              rw [ha'] at e1
              cases e1
              rw [ha', ← hab]
              rfl
          exact ⟨hnew7 _ (ho7.lt_ hob).1, ho7.cells_at hob⟩
        have HP7 := Lib.hid (HP6.out.go hb7 hold7)
        have hb8 : Below w7.heap.size w7 (w7.alloc (.cells #[.slice A8 rx.length (c7 - n5)] 52)) := (Below.refl _ _).alloc (Nat.le_refl _) _
        obtain ⟨k8, hA8, hold8, hnew8⟩ := Al.go C hA7 hb8
        have HP8 := Lib.hid (HP7.out.go hb8 hold8)
        have HQ8 := Lib.hid (hQ7.step hb8.size hold8 (fun g cs _ hg => hb8.block g (Array.getElem?_eq_some_iff.1 hg).1))
        have HA8 := Lib.hid hA8
        have HN8 : Hid (Kws sl1 (w7.alloc (.cells #[.slice A8 rx.length (c7 - n5)] 52)) (w7.heap.size + 1) (some ⟨w7.heap.size, 0, none⟩) 1 1 [⟨A8, rx.length, c7 - n5, rx⟩]) := Lib.hid (Kws.new (E := sl1) w7 [(⟨A8, rx.length, c7 - n5, rx⟩ : Rec)] _ _ 1 rfl rfl (by unfold maxLen; omega))
        have hnl : n5 ≤ n5 + rx.length := by omega
        have hnl' : ¬ ((n5 + rx.length : Nat) : Int) < (n5 : Int) := by omega
        clear ho7 hr7 hb7 hA7 hold7 hnew7 hcut hadr hdr hQ7 hb8 hA8 hold8 hnew8 HBY HP6 HQ6 HP7 HA6 HRS HRL HEL HLS
        generalize rx.length = nx at *
        go_wp2_with (at_builtin; go_must (refine wpList_appK _ rfl (.tmp 62) (.tmp 66) 75 rfl Try.underlying75 HIE.out HZ0.out rfl HZ1.out (by have := HZ2.out; omega) HP8.out.1 rfl HN8.out rfl (by omega) (by have := HA8.out.2.1.size; omega) ?_); intro v9 w9 ho9 hb9 hg9)
        obtain ⟨A9, n9, c9, rfl, hk9⟩ := ho9.shape
        have hn9 : n9 = i + 1 := by
          have h1 := hk9.len
          rw [List.length_append] at h1
          simp only [List.length_cons, List.length_nil] at h1
          omega
        subst hn9
        have HF : Hid (∃ c L' rs', Al Lg w3 c p 100 L' [] w9 ∧ OwD 0 w3.heap.size sl1 52 w9 c (.slice A9 (i + 1) c9) rs' ∧ Pts w9 c rs' ∧ Goods L' ∧ L'.length = i + 1 ∧ rs'.length = i + 1) := Lib.hid (by
          obtain ⟨hw9, hk9'⟩ := HP8.out.app ho9 hg9.1 hg9.2
          refine ⟨_, L ++ [⟨xp, xo, xh, xa, xe⟩], _, Al.own C HA8.out hg9.1 (fun g e => ⟨HP8.out.2 g e, (HP8.out.1.ge e).1⟩) (fun g hg => cn_old hg), hw9, HQ8.out.step hg9.1.size (fun g hg => cn_old hg) (fun g cs h0 hg => hg9.1.block g (Array.getElem?_eq_some_iff.1 hg).1 (fun e => ?_)), HG6.out, by simp; omega, by simp; omega⟩
          obtain ⟨cs', hcs'⟩ := HP8.out.1.cells_at e.symm
          rw [hg] at hcs'
          cases hcs')
        clear ho9 hb9 hg9 hk9 HP8 HQ8 HA8 HN8 HG6 HG hsl
        go_wp2
        go_roundw
        case rel => exact ⟨i + 1, by omega, by go_num, A9, c9, rfl, HF⟩
        case measure => simp [intOf]; omega
      · obtain rfl : i = n := by omega
        have hd : ¬ (i : Int) < (i : Int) := by omega
        have HPK := Lib.hid hP.kws
        have hcapp := hP.kws.cap
        have hsmp := hP.kws.small
        unfold maxLen at hsmp
        have HQ := Lib.hid hQ
        have HBW : Hid (Below w.heap.size w wr) := Lib.hid (HB3.out.trans (hA.2.1.mono HB3.out.size))
        have hSO : Hid (∃ l5, OwnB wr wr.heap.size (.slice none 0 0) l5 ∧ Small l5 ∧ Below wr.heap.size wr wr) := Lib.hid ⟨[], OwnB.nil _ _, (fun x hx => by (cases hx)), Below.refl _ _⟩
        clear hh hA hP hQ hG HGL HK3
        go_wp2
        rename World => wp
        go_loopw [16, 71] (fun ov kv wr => ∃ j : Nat, j ≤ i ∧ kv = .int .i64 j ∧ ∃ A5 n5 c5, ov = .slice A5 n5 c5 ∧ n5 ≤ 60 * j ∧ Hid (∃ l5, OwnB wr wp.heap.size (.slice A5 n5 c5) l5 ∧ Small l5 ∧ Below wp.heap.size wp wr)) (fun _ kv _ => i - (intOf kv).toNat)
        case atStart => exact ⟨0, Nat.zero_le _, rfl, none, 0, 0, rfl, by omega, hSO⟩
        case round =>
          obtain ⟨j, hj, rfl, A5, n5, c5, rfl, hn5, hh⟩ := hrel
          obtain ⟨l5, ho5, hs5, hb5⟩ := hh.out
          have HO5 := Lib.hid ho5
          have HS5 := Lib.hid hs5
          have HB5 := Lib.hid hb5
          have hl5 : l5.length = n5 := (OwnB.len ho5).len
          clear hh ho5 hs5 hb5 hSO
          by_cases hjn : j < i
          · have hj1 : (j : Int) < (i : Int) := by omega
            by_cases hjk : (j : Int) = kk
            · have hjk' : ((j : Int) != kk) = false := by simpa using hjk
              have HF : Hid (∃ l5, OwnB wr wp.heap.size (.slice A5 n5 c5) l5 ∧ Small l5 ∧ Below wp.heap.size wp wr) := Lib.hid ⟨l5, HO5.out, HS5.out, HB5.out⟩
              clear hjk HO5 HS5 HB5
              go_wp2
              go_roundw
              case rel => exact ⟨j + 1, by omega, by go_num, A5, n5, c5, rfl, by omega, HF⟩
              case measure => simp [intOf]; omega
            · have hjk' : ((j : Int) != kk) = true := by simpa using hjk
              obtain ⟨bb, ob, r, hr, rfl, hbb, hcl⟩ := (HPK.out.below HB5.out).at_ hjn
              have g0 := hcl 0 _ rfl
              obtain ⟨hb1, hs1, hn1, _⟩ := HQ.out r (List.mem_of_getElem? hr)
              have HR := Lib.hid ((hb1.below HB5.out).more HB5.out.size)
              have HSR := Lib.hid hs1
              have hrl := hb1.len
              obtain ⟨rA, rn, rc', rl⟩ := r
              simp only [show sl1.k = 1 from rfl, Nat.mul_one, Nat.add_zero, Rec.v] at g0 hn1 HR HSR hrl
              clear hjk hr hbb hcl hb1 hs1
              go_wp2_with (at_builtin; go_must (refine wpList_appB _ rfl (.tmp 77) (.tmp 81) 52 rfl rfl Try.underlying52 HI8.out HY0.out HY1.out HY2.out HO5.out rfl HR.out rfl (by omega) HB5.out.size ?_); intro v6 w6 ho6 hb6)
              have HF : Hid (∃ l5, OwnB w6 wp.heap.size v6 l5 ∧ Small l5 ∧ Below wp.heap.size wp w6) := Lib.hid ⟨_, ho6, HS5.out.app HSR.out, HB5.out.trans hb6⟩
              obtain ⟨A6, n6, c6, rfl, hr6⟩ := ho6.shape
              have hn6 : n6 ≤ 60 * (j + 1) := by
                have h1 := hr6.len
                rw [List.length_append] at h1
                omega
              clear ho6 hb6 hr6 HO5 HS5 HB5 HR HSR g0
              go_wp2
              go_roundw
              case rel => exact ⟨j + 1, by omega, by go_num, A6, n6, c6, rfl, hn6, HF⟩
              case measure => simp [intOf]; omega
          · obtain rfl : j = i := by omega
            have hd2 : ¬ (j : Int) < (j : Int) := by omega
            have HD1 := Lib.hid (C.decode A5 n5 c5 l5 wr (OwnB.len HO5.out) HS5.out (by omega))
            have HD2 := Lib.hid (fun W (hW : Below wr.heap.size wr W) => decodeLogR_any A5 n5 c5 l5 W ((OwnB.len HO5.out).go hW) HS5.out (by omega))
            have HBT := Lib.hid (HBW.out.trans (HB5.out.mono HBW.out.size))
            unfold DlE at HD1 HD2
            generalize lgE l5 = de at *
            generalize lgL l5 = ll at *
            clear HO5 HS5 HB5 HPK HQ HBW
            go_wp2_with fail
            refine HD1.out.mono ?_
            rintro e w6 ⟨v6, rfl, ho6, hb6⟩
            obtain ⟨A6, n6, c6, rfl, hk6⟩ := ho6.shape
            have HK6 := Lib.hid hk6
            have HB6 := Lib.hid (Below.then HBT.out hb6 (Nat.le_trans (Nat.le_refl _) (Nat.le_refl _)))
            have HC6 := Lib.hid (HD2.out w6 hb6)
            clear ho6 hk6 hb6 HD1 HD2 HBT
            go_wp2_with fail
            refine HC6.out.mono ?_
            rintro e w7 ⟨v7, rfl, ho7, hb7⟩
            obtain ⟨A7, n7, c7, rfl, hk7⟩ := ho7.shape
            have HK7 := Lib.hid hk7
            have HK6' := Lib.hid (HK6.out.go hb7)
            have HB7 := Lib.hid (Below.then HB6.out hb7 (Nat.le_refl _))
            clear ho7 hk7 hb7 HC6 HK6 HB6
            go_wp2_with fail
            refine (aw17_any C w7).mono ?_
            rintro e w8 ⟨rfl, hb8⟩
            have HSM := Lib.hid (sameEv_any A6 n6 c6 A7 n7 c7 ll w8 (HK6'.out.go hb8) (HK7.out.go hb8))
            have HB8 := Lib.hid (Below.then HB7.out hb8 (Nat.le_refl _))
            clear hb8 HK6' HK7 HB7
            go_wp2_with fail
            refine HSM.out.mono ?_
            rintro e w9 ⟨rfl, hb9⟩
            have HB9 := Lib.hid (Below.then HB8.out hb9 (Nat.le_refl _))
            clear hb9 HSM HB8
            go_wp2
            go_ret
            exact ⟨rfl, HB9.out⟩
end
end Go.Proofs.Ytlgoiccekgjhnaa
