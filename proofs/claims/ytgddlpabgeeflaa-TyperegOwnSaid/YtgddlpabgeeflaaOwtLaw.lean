/-
  The law TyperegOwn as a walk: called with any arguments of its types it returns true. No conditions.
-/
import Derived.Test.YtgddlpabgeeflaaAwt
import Derived.Test.YtgddlpabgeeflaaMde
import Derived.Deep.CutRange
namespace Go.Proofs.Ytgddlpabgeeflaa
open Go.ChangeShapes Go.WideShapes Go.RowKit
set_option linter.unusedVariables false
set_option maxHeartbeats 8000000
set_option maxRecDepth 100000

section
variable {P : Program}
theorem step_appU (w : World) {ops : Array Oper} {o : Oper} {a : Act} {K : Act → World → Prop} {Q : Exit → Act → World → Prop} {E : Prop} (hgd : o.guard = none) (s x : Operand) (t : TypeId)
    (ho : o.op = .call { callee := .builtin .append, args := #[s, x], argTypes := #[t, t] })
    {e : TypeId} {i : TypeInfo} {z : Value} (ht : P.underlying t = some (.slice e)) (hi : P.info? e = some i) (hz : i.zero = some z) (hzs : z.cells.size = 2) (hsz : i.size = 2) (hby : i.bytes ≤ 64)
    {base : Nat} {v : Value} {xs : List (Int × Int)} (hown : OwnE e w base v xs) (hs : a.eval s = v) {B : Nat} {A : Option Addr} {m c : Nat} {ys : List (Int × Int)} (hy : Exs w B A m c ys) (hx : a.eval x = .slice A m c)
    (hsm : xs.length + m ≤ 4294967296) (hb : base ≤ w.heap.size)
    (h : ∀ v' w', OwnE e w' base v' (xs ++ ys) → Below base w w' → (∀ k, k < w.heap.size → v.ownBlock ≠ some k → w'.heap[k]? = w.heap[k]?) → K (a.put o.dst v') w') :
    if Region.wanted o (yielded ops a.tmps) = true then Oper.wp P o a w K Q else E := by
  have hw : Region.wanted o (yielded ops a.tmps) = true := by simp [Region.wanted, hgd]
  rw [if_pos hw]
  obtain ⟨v', w', hrun, h2, h3, h4, _⟩ := run_appE (P := P) w t o.type e i z ht hi hz hzs hsz hby base v xs hown hy hsm hb
  unfold Oper.wp execOp
  simp only [ho, resolve, invoke, builtin, Sem.run_bind, Sem.run_pure, Result.andThen_ok, List.map_toArray, List.map_cons, List.map_nil, hs, hx, hrun]
  exact h v' w' h2 h3 (fun k hk hne => h4.block k hk (fun e => hne e.symm))
end
theorem OwnE.made0 (t : TypeId) (w : World) : OwnE t (w.alloc (.cells #[] t)) w.heap.size (.slice (some ⟨w.heap.size, 0, none⟩) 0 0) [] := ⟨World.ownsRow_made w #[] 0 (Nat.le_refl _) (Nat.zero_le _) rfl, Fits.nil⟩
theorem ev_row : ∀ l : List (Int × Int), int2.row l = ev l
  | [] => rfl
  | x :: l => by simp only [Enc.row, ev]; rw [ev_row l]; rfl
theorem OwnE.k {t : TypeId} {w : World} {b : Nat} {v : Value} {l : List (Int × Int)} (h : OwnE t w b v l) : OwnK int2 t w b v l := by
  unfold OwnK
  rw [ev_row]
  exact h.1
theorem OwnK.e {t : TypeId} {w : World} {b : Nat} {v : Value} {l : List (Int × Int)} (h : OwnK int2 t w b v l) (hf : Fits l) : OwnE t w b v l := by
  unfold OwnK at h
  rw [ev_row] at h
  exact ⟨h, hf⟩
theorem Fits.set {l : List (Int × Int)} (h : Fits l) (k : Nat) (x : Int × Int) (hx : (-9223372036854775808 ≤ x.1 ∧ x.1 ≤ 9223372036854775807) ∧ (-9223372036854775808 ≤ x.2 ∧ x.2 ≤ 9223372036854775807)) : Fits (l.set k x) := fun y hy => by
  rcases List.mem_or_eq_of_mem_set hy with h1 | rfl
  · exact h y h1
  · exact hx
theorem ob_ne {a b n c : Nat} (h : a ≠ b) : (Value.slice (some ⟨a, 0, none⟩) n c).ownBlock ≠ some b := fun e => h (Option.some.inj e)
theorem TyB.set0 {w : World} {t m c : Nat} {n n' : Int} {A : Option Addr} (h : TyB w t n A m c) : TyB (w.setCell ⟨t, 0, none⟩ (.int .i64 n')) t n' A m c := heap_setCell_same w t 0 _ _ _ h
theorem OwnE.far {t t' : TypeId} {w : World} {base b o : Nat} {v : Value} {l : List (Int × Int)} {cs : Array Value} (h : OwnE t w base v l) (hb : w.heap[b]? = some (.cells cs t' (0, 0))) (hne : t ≠ t') (u : Value) : OwnE t (w.setCell ⟨b, o, none⟩ u) base v l := by
  refine ⟨⟨h.1.1, ?_⟩, h.2⟩
  rcases h.1.2 with h0 | ⟨g, cap, cur, rfl, hbg, hg, hnc, hm, hs, ht⟩
  · exact .inl h0
  · exact .inr ⟨g, cap, cur, rfl, hbg, (Below.heap_setCell w ⟨b, o, none⟩ u g (fun e => by
      simp only at e
      subst e
      rw [hg] at hb
      cases hb
      exact hne rfl)).trans hg, hnc, hm, hs, ht⟩
theorem made_chk (L : List Int) (i : Nat) : chk (typV L i).1 (typV L i).2 = 0 ∧ 0 < (typV L i).2.length ∧ (typV L i).2.length ≤ 4 := by
  obtain ⟨h1, h2⟩ := typ_ok L i
  refine ⟨(made_places h1 (by omega)).1, by omega, by omega⟩
theorem rg_first {x : Int × List (Int × Int)} (h : chk x.1 x.2 = 0) : rgV [] x = (1, 0) ∧ rgT [] x = [x] := by
  unfold rgV rgT
  simp [h]
theorem lk_first {x : Int × List (Int × Int)} : lkT [x] 1 = x ∧ lkE [x] 1 = 0 := by
  unfold lkT lkE
  simp
/-- The colours of a registry at block b beside a block g that is written otherwise. -/
def cl3 (b g : Nat) : Nat → Nat := fun x => if x = b then 2 else if x = g then 1 else 0
theorem typeregOwn_walk (a0 : Option Addr) (len0 cap0 : Nat) (z0 : List Int) (a1 : Int) (w : World) (w0 : IsRow .u16 w a0 len0 cap0 z0) (w1 : (Lit.int .u8 a1).wf = true) :
    Calls Try.prog 6 #[.slice a0 len0 cap0, .int .u8 a1] w fun e w' => e = .returned (.bool true) ∧ Below w.heap.size w w' := by
  obtain ⟨hrow, hfit⟩ := w0.row
  obtain ⟨i0, hi, hz0, hz1, hz2⟩ := info_parts infoFd
  have HI := Lib.hid hi
  have HZ := Lib.hid hz0
  generalize z0.take len0 = L at *
  have HOF := Lib.hid (of_any a0 len0 cap0 L 30 w hrow (by omega))
  have HFT := Lib.hid (hfit.take 30)
  generalize L.take 30 = T at *
  obtain ⟨hck, hl0, hl4⟩ := made_chk T 0
  have HTY := Lib.hid (fun b W (hW : TS W b T 0) => typeO_any b 0 T W hW HFT.out (by omega))
  obtain ⟨⟨n, l⟩, htv⟩ : ∃ p, typV T 0 = p := ⟨_, rfl⟩
  rw [htv] at HTY hck hl0 hl4
  simp only at hck hl0 hl4
  have b1 := Go.bounds_u8 w1
  have HCK := Lib.hid hck
  clear w0 hrow hfit htv w1 hi hz0 hck
  go_enter Try.func6, Try.ntmps6
  go_wp2_with fail
  refine HOF.out.mono ?_
  rintro e w1 ⟨b, rfl, hts, hge, hb1⟩
  have HTS := Lib.hid hts
  have HB1 := Lib.hid hb1
  clear hts hb1 HOF
  go_wp2_with fail
  refine (HTY.out b w1 HTS.out).mono ?_
  rintro e w2 ⟨A, m, c, rfl, hown, hts2, ho⟩
  obtain ⟨A', m', c', e', hx⟩ := hown.shape
  cases e'
  have hml : l.length = m := hx.len
  obtain ⟨ab, capx, curx, Rx, e6, hg0, hg1, hj3, hj4, hj5⟩ := hown.k.opn hl0
  rw [hml] at e6
  cases e6
  clear hj3 hj4 hj5
  have hb2 := HB1.out.trans (ho.below hge HB1.out.size)
  have hb3 := (Below.refl w2.heap.size w2).alloc (Nat.le_refl _) (.cells #[.int .i64 n, .slice (some ⟨ab, 0, none⟩) m c] 35)
  have HT3 := Lib.hid (TyB.new (w := w2) (n := n) (A := some ⟨ab, 0, none⟩) (m := m) (c := c))
  have HX3 := Lib.hid (hx.go hb3)
  have HW3 := Lib.hid (hown.below hb3)
  have HB3 := Lib.hid (Below.then hb2 hb3 (Nat.le_refl _))
  have hsz2 := hb2.size
  have hsz1 := HB1.out.size
  have hcap := hx.cap
  have hsm := hx.small
  unfold maxLen at hsm
  clear hx hts2 ho hb2 hb3 HTS HB1 HTY hown
  go_wp2_with fail
  generalize w2.alloc (.cells #[.int .i64 n, .slice (some ⟨ab, 0, none⟩) m c] 35) = w3 at *
  have hs3 : w2.heap.size < w3.heap.size := HT3.out.lt
  generalize w2.heap.size = tb at *
  have hml2 : l.length ≤ 4 := by omega
  have hd3 : Below w3.heap.size w3 w3.drew := below_drewN (Below.refl _ _) 1
  have hds : w3.drew.heap.size = w3.heap.size := rfl
  have HX4 := Lib.hid ((HX3.out.go hd3))
  have HT4 := Lib.hid (HT3.out.go hd3)
  have HD := Lib.hid hd3
  have c0 := HT4.out.cell0
  have c1 := HT4.out.cell1
  have r0 := HT3.out.cell0
  have r1 := HT3.out.cell1
  clear hd3
  have HLL := Lib.hid hml2
  have HXB : Hid (((w3.drew.alloc (.cells #[] 45)).alloc (.cells #[.int .i64 0, .slice none 0 0] 35)).heap[w3.heap.size + 1]? = some (.cells #[.int .i64 0, .slice none 0 0] 35)) := Lib.hid (by have := heap_alloc_new (w3.drew.alloc (.cells #[] 45)) (.cells #[.int .i64 0, .slice none 0 0] 35); simpa using this)
  have HXC : Hid (((w3.drew.alloc (.cells #[.int .i64 0, .slice none 0 0] 35)).alloc (.cells #[] 45)).heap[w3.heap.size]? = some (.cells #[.int .i64 0, .slice none 0 0] 35)) := Lib.hid (((((Below.refl (w3.drew.alloc (.cells #[.int .i64 0, .slice none 0 0] 35)).heap.size _).alloc (Nat.le_refl _) (.cells #[] 45))).block w3.heap.size (by simp)).trans (heap_alloc_new w3.drew (.cells #[.int .i64 0, .slice none 0 0] 35)))
  have HOC : Hid (OwnE 45 ((w3.drew.alloc (.cells #[.int .i64 0, .slice none 0 0] 35)).alloc (.cells #[] 45)) (w3.heap.size + 1) (.slice (some ⟨w3.heap.size + 1, 0, none⟩) 0 0) []) := Lib.hid (by have := OwnE.made0 45 (w3.drew.alloc (.cells #[.int .i64 0, .slice none 0 0] 35)); simpa using this)
  go_cut [6] from 15 to 21 (fun s14 wx => ∃ (ub : Nat) (A5 : Option Addr) (n5 c5 : Nat), s14 = .pointer (some ⟨ub, 0, none⟩) ∧ Hid (w3.heap.size ≤ ub ∧ TyB wx ub n A5 n5 c5 ∧ OwnE 45 wx w3.heap.size (.slice A5 n5 c5) l ∧ Below w3.heap.size w3 wx))
  case first =>
    go_region_law
      (first
        | (refine step_appU (w3.drew.alloc (.cells #[] 45)) rfl (.tmp 17) (.tmp 19) 33 rfl Try.underlying33 HI.out HZ.out rfl hz1 (by omega) (OwnE.made0 _ _) rfl (HX4.out.alloc _) rfl (by have := HLL.out; simp; omega) (by simp <;> omega) ?_
           intro v5 w5 ho5 hb5 hg5
           obtain ⟨A5, n5, c5, rfl, hx5⟩ := ho5.shape
           have HO5 : Hid (OwnE 45 w5 w3.heap.size (.slice A5 n5 c5) l) := Lib.hid (ho5.down (Nat.le_refl _))
           have HB5 : Hid (Below w3.heap.size w3 w5) := Lib.hid ((HD.out.alloc (Nat.le_refl _) _).trans (hb5.mono (Nat.le_refl _)))
           have hz5 : tb < w5.heap.size := Nat.lt_of_lt_of_le hs3 HB5.out.size
           have d0 := (HT3.out.go HB5.out).cell0
           have d1 := (HT3.out.go HB5.out).cell1
           clear ho5 hb5 hg5 hx5)
        | (refine step_appU ((w3.drew.alloc (.cells #[.int .i64 0, .slice none 0 0] 35)).alloc (.cells #[] 45)) rfl (.tmp 17) (.tmp 19) 33 rfl Try.underlying33 HI.out HZ.out rfl hz1 (by omega) HOC.out rfl ((HX4.out.alloc _).below (((Below.refl _ _).alloc (by simp) _))) rfl (by have := HLL.out; simp; omega) (by simp <;> omega) ?_
           intro v5 w5 ho5 hb5 hg5
           obtain ⟨A5, n5, c5, rfl, hx5⟩ := ho5.shape
           have HO5 : Hid (OwnE 45 w5 w3.heap.size (.slice A5 n5 c5) l) := Lib.hid (ho5.down (by simp <;> omega))
           have HB5 : Hid (Below w3.heap.size w3 w5) := Lib.hid (((HD.out.alloc (Nat.le_refl _) _).alloc (by simp <;> omega) _).trans (hb5.mono (by simp <;> omega)))
           have hz5 : tb < w5.heap.size := Nat.lt_of_lt_of_le hs3 HB5.out.size
           have d0 := (HT3.out.go HB5.out).cell0
           have d1 := (HT3.out.go HB5.out).cell1
           have HU5 : Hid (TyB w5 (w3.heap.size) 0 none 0 0) := Lib.hid ((hg5 _ (by simp <;> omega) (ob_ne (Nat.succ_ne_self _))).trans (HXC.out))
           have u0 := HU5.out.cell0
           have u1 := HU5.out.cell1
           have u2 := HU5.out.fr 0
           have u3 := HU5.out.fr 1
           clear ho5 hb5 hg5 hx5)
        | (refine step_appU ((w3.drew.alloc (.cells #[] 45)).alloc (.cells #[.int .i64 0, .slice none 0 0] 35)) rfl (.tmp 17) (.tmp 19) 33 rfl Try.underlying33 HI.out HZ.out rfl hz1 (by omega) ((OwnE.made0 _ _).alloc _) rfl ((HX4.out.alloc _).below (((Below.refl _ _).alloc (by simp) _))) rfl (by have := HLL.out; simp; omega) (by simp <;> omega) ?_
           intro v5 w5 ho5 hb5 hg5
           obtain ⟨A5, n5, c5, rfl, hx5⟩ := ho5.shape
           have HO5 : Hid (OwnE 45 w5 w3.heap.size (.slice A5 n5 c5) l) := Lib.hid (ho5.down (Nat.le_refl _))
           have HB5 : Hid (Below w3.heap.size w3 w5) := Lib.hid (((HD.out.alloc (Nat.le_refl _) _).alloc (by simp) _).trans (hb5.mono (Nat.le_refl _)))
           have hz5 : tb < w5.heap.size := Nat.lt_of_lt_of_le hs3 HB5.out.size
           have d0 := (HT3.out.go HB5.out).cell0
           have d1 := (HT3.out.go HB5.out).cell1
           have HU5 : Hid (TyB w5 (w3.heap.size + 1) 0 none 0 0) := Lib.hid ((hg5 _ (by simp <;> omega) (ob_ne (Nat.ne_of_lt (Nat.lt_succ_self _)))).trans (HXB.out))
           have u0 := HU5.out.cell0
           have u1 := HU5.out.cell1
           have u2 := HU5.out.fr 0
           have u3 := HU5.out.fr 1
           clear ho5 hb5 hg5 hx5))
    all_goals
      go_wp2_with fail
      go_meet
      first
        | exact ⟨_, A5, n5, c5, rfl, Lib.hid ⟨HB5.out.size, TyB.new, HO5.out.alloc _, HB5.out.alloc HB5.out.size _⟩⟩
        | exact ⟨w3.heap.size + 1, A5, n5, c5, rfl, Lib.hid ⟨by omega, HU5.out.set, (HO5.out.far HU5.out (by decide) _).far HU5.out.set0 (by decide) _, (HB5.out.setCell (p := ⟨_, 0, none⟩) (by simp only; omega) _).setCell (p := ⟨_, 1, none⟩) (by simp only; omega) _⟩⟩
        | exact ⟨w3.heap.size, A5, n5, c5, rfl, Lib.hid ⟨by omega, HU5.out.set, (HO5.out.far HU5.out (by decide) _).far HU5.out.set0 (by decide) _, (HB5.out.setCell (p := ⟨_, 0, none⟩) (by simp only; omega) _).setCell (p := ⟨_, 1, none⟩) (by simp only; omega) _⟩⟩
  case rest =>
    obtain ⟨ub, A5, n5, c5, rfl, hh⟩ := hcut
    clear HXB HXC HOC HX4 HT4 HD hds HLL HI HZ c0 c1 r0 r1 hz1 hz2
    obtain ⟨hub, htu, hou, hbu⟩ := hh.out
    have HTU := Lib.hid htu
    have HOU := Lib.hid hou
    have HBU := Lib.hid hbu
    have HN := Lib.hid (newT_any wc)
    have HOB : Hid (∀ g, (Value.slice A5 n5 c5).ownBlock = some g → w3.heap.size ≤ g ∧ g < wc.heap.size) := Lib.hid (fun g hg => ⟨hou.blk_ge hg, hou.blk_lt hg⟩)
    have hubl := htu.lt
    have hbuz := hbu.size
    clear hh htu hou hbu
    go_wp2_with fail
    refine HN.out.mono ?_
    rintro e w6 ⟨rfl, hw6⟩
    have HB6 : Hid (Below wc.heap.size wc w6) := Lib.hid (by rw [hw6]; exact (Below.refl _ _).alloc (Nat.le_refl _) _)
    have HR6 : Hid (Reg w6 (cl3 wc.heap.size ab) 2 0 wc.heap.size []) := Lib.hid (by rw [hw6]; exact Reg.new (if_pos rfl))
    have HBA : Hid (Below w3.heap.size w3 w6) := Lib.hid (Below.then HBU.out HB6.out (Nat.le_refl _))
    have HT6 := Lib.hid (HT3.out.go HBA.out)
    have HW6 := Lib.hid (HW3.out.below HBA.out)
    have HTU6 := Lib.hid (HTU.out.go HB6.out)
    have HOU6 := Lib.hid (HOU.out.below HB6.out)
    have HBW : Hid (Below w.heap.size w w6) := Lib.hid (Below.then HB3.out HBA.out (Nat.le_refl _))
    have hz6 := HB6.out.size
    have hz3 := HB3.out.size
    clear hw6 HN HB6 HBA HT3 HW3 HX3 HTU HOU HBU HB3
    generalize hrb : wc.heap.size = rb at *
    have hc2 : ∀ g, g ≠ rb → cl3 rb ab g ≠ 2 := fun g hg => by
      unfold cl3
      rw [if_neg hg]
      split <;> omega
    have HC2 := Lib.hid hc2
    have habr : ab < rb := by omega
    have h0 := HT6.out.cell0
    have h1 := HT6.out.cell1
    have HREG := Lib.hid (register_any w6 (cl3 rb ab) 2 0 rb [] n (some ⟨ab, 0, none⟩) m c l HR6.out (by omega) (Nat.zero_le _) HW6.out.exs (by omega) (by simp))
    obtain ⟨f1, f2⟩ := rg_first (x := (n, l)) HCK.out
    clear hc2
    go_wp2_with fail
    refine HREG.out.mono ?_
    rintro e w7 ⟨c7, rfl, hc7, hr7, hk7⟩
    rw [f2] at hr7
    rw [f1]
    have HT7 := Lib.hid (hk7.tyb HT6.out (HC2.out _ (by omega)))
    have HW7 := Lib.hid (HW6.out.keptC hk7 (fun g hg => HC2.out _ (by cases hg; simp only; omega)))
    have HTU7 := Lib.hid (hk7.tyb HTU6.out (HC2.out _ (by omega)))
    have HOU7 := Lib.hid (HOU6.out.keptC hk7 (fun g hg => HC2.out _ (by have := HOB.out g hg; omega)))
    have HR7 := Lib.hid hr7
    have HB7 : Hid (Below w.heap.size w w7) := Lib.hid (HBW.out.trans (hk7.below (fun g hg => HC2.out _ (by omega)) (by omega)))
    have HC7 : Hid (c7 ab = 1) := Lib.hid ((hc7 ab (by omega)).trans (by unfold cl3; rw [if_neg (by omega), if_pos rfl]))
    have h67 := hk7.size
    clear hc7 hr7 hk7 HT6 HW6 HTU6 HOU6 HBW HR6 HREG h0 h1 f1 f2
    obtain ⟨⟨x0, x1⟩, hx0⟩ : ∃ x, l[0]? = some x := ⟨l[0], List.getElem?_eq_getElem hl0⟩
    obtain ⟨g, cap, e8, _, _, s1, s2, s3⟩ := HW7.out.k.store (i := 0) (j := 0) (y := (a1, x1)) (u' := .int .i64 a1) hx0 rfl rfl
    rw [hml] at e8
    cases e8
    simp only [Nat.zero_mul, Nat.zero_add] at s1 s2 s3
    have t1 := HT7.out.cell1
    have hm0 : (0 : Int) < (m : Int) := by omega
    have hm1 : (0 : Nat) < m := by omega
    have hk8 : Kept c7 1 w7 (w7.setCell ⟨ab, 0, none⟩ (.int .i64 a1)) := Kept.ofGrown (run_setOwn w7 ab _) (fun g e => by cases e; exact HC7.out)
    have HR8 := Lib.hid (HR7.out.kept (c' := c7) hk8 (by omega) (by omega) (fun _ _ => rfl))
    have HTU8 := Lib.hid (HTU7.out.apart (k := ab) (o := 0) (by omega) (.int .i64 a1))
    have HOU8 : Hid (OwnE 45 (w7.setCell ⟨ab, 0, none⟩ (.int .i64 a1)) w3.heap.size (.slice A5 n5 c5) l) := Lib.hid (HOU7.out.kept (run_setOwn w7 ab _) (by
      rcases hob : (Value.slice A5 n5 c5).ownBlock with _ | g
      · exact .inl rfl
      · refine .inr fun e => ?_
        cases e
        have := (HOB.out _ hob).1
        omega))
    have HB8 : Hid (Below w.heap.size w (w7.setCell ⟨ab, 0, none⟩ (.int .i64 a1))) := Lib.hid (HB7.out.setCell (p := ⟨ab, 0, none⟩) (by simp only; omega) _)
    have hz8 : w7.heap.size ≤ (w7.setCell ⟨ab, 0, none⟩ (.int .i64 a1)).heap.size := hk8.size
    have HLK := Lib.hid (lookup_any 1 (w7.setCell ⟨ab, 0, none⟩ (.int .i64 a1)) c7 2 0 rb [(n, l)] HR8.out (by simp) (fun x hx => by simp only [List.mem_singleton] at hx; subst hx; simp only; omega) ⟨by omega, by omega⟩)
    obtain ⟨f1, f2⟩ := lk_first (x := (n, l))
    rw [f1, f2] at HLK
    clear s3 hk8 f1 f2
    go_wp2_with fail
    refine HLK.out.mono ?_
    generalize w7.setCell ⟨ab, 0, none⟩ (.int .i64 a1) = w8 at *
    rintro e w9 ⟨A9, m9, c9, rfl, ho9, hb9⟩
    have HX9 := Lib.hid ho9.exs
    have HTU9 := Lib.hid (HTU8.out.go hb9)
    have HOU9 := Lib.hid ((HOU8.out.below hb9).exs)
    have HB9 : Hid (Below w.heap.size w w9) := Lib.hid (Below.then HB8.out hb9 (Nat.le_refl _))
    have hb10 : Below w9.heap.size w9 (w9.alloc (.cells #[.int .i64 n, .slice A9 m9 c9] 35)) := (Below.refl _ _).alloc (Nat.le_refl _) _
    have HV10 := Lib.hid (TyB.new (w := w9) (n := n) (A := A9) (m := m9) (c := c9))
    have HX10 := Lib.hid (HX9.out.go hb10)
    have HTU10 := Lib.hid (HTU9.out.go hb10)
    have HOU10 := Lib.hid (HOU9.out.go hb10)
    have HB10 := Lib.hid (Below.then HB9.out hb10 (Nat.le_refl _))
    clear ho9 hb9 hb10 HLK HX9 HTU9 HOU9 HB9 s1 s2 t1
    go_wp2_with fail
    generalize w9.alloc (.cells #[.int .i64 n, .slice A9 m9 c9] 35) = w10 at *
    refine (awake10_any w10).mono ?_
    rintro e w11 ⟨rfl, hb11⟩
    have HB11 : Hid (Below w.heap.size w w11) := Lib.hid (Below.then HB10.out hb11 (Nat.le_refl _))
    have q0 := (HV10.out.go hb11).cell0
    have q1 := (HV10.out.go hb11).cell1
    have q2 := (HTU10.out.go hb11).cell0
    have q3 := (HTU10.out.go hb11).cell1
    have HS := Lib.hid (sameType_any n n A9 A5 m9 n5 c9 c5 l l w11 (HX10.out.go hb11) (HOU10.out.go hb11))
    rw [eqT_self] at HS
    clear hb11
    go_wp2_with fail
    refine HS.out.mono ?_
    rintro e w12 ⟨rfl, hb12⟩
    have HB12 : Hid (Below w.heap.size w w12) := Lib.hid (Below.then HB11.out hb12 (Nat.le_refl _))
    clear hb12 HS q0 q1 q2 q3
    go_wp2
    go_ret
    exact ⟨rfl, HB12.out⟩
end Go.Proofs.Ytgddlpabgeeflaa
