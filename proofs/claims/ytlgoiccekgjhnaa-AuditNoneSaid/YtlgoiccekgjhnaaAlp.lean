/-
  The audit log as plain functions: its bytes, its digest, what reading gives, how many records a plugin has, what an append does; that reading undoes writing, and what a log that was cut off gives. Plain mathematics; no conditions beyond those that each lemma states.
-/
import Derived.Test.YtlgoiccekgjhnaaEvp
import Derived.Test.YtlgoiccekgjhnaaFnv
import Derived.Test.YtlgoiccekgjhnaaKow
namespace Go.Proofs.Ytlgoiccekgjhnaa

/-- An event: plugin, operation, handle, argument, error. -/
structure Ev5 where
  p : Int
  o : Int
  h : Int
  a : Int
  e : Int
theorem Ev5.same {x y : Ev5} (h1 : x.p = y.p) (h2 : x.o = y.o) (h3 : x.h = y.h) (h4 : x.a = y.a) (h5 : x.e = y.e) : x = y := by
  cases x; cases y
  simp only at h1 h2 h3 h4 h5
  subst h1 h2 h3 h4 h5
  rfl
/-- An event as cells, and as a value. -/
def ec (x : Ev5) : List Value := [.int .i64 x.p, .int .i64 x.o, .int .u64 x.h, .int .u64 x.a, .int .i64 x.e]
def ev5 : Enc Ev5 where
  k := 5
  ev := ec
  len := fun _ => rfl
  one := fun x u hu => by
    simp only [ec, List.mem_cons, List.not_mem_nil, or_false] at hu
    rcases hu with rfl | rfl | rfl | rfl | rfl <;> rfl
  pos := by omega
/-- Check returns OK; the handle and the argument are words. -/
def Good (x : Ev5) : Prop := chkV x.p x.o x.e = 0 ∧ (0 ≤ x.h ∧ x.h < 18446744073709551616) ∧ 0 ≤ x.a ∧ x.a < 18446744073709551616
def Goods (l : List Ev5) : Prop := ∀ x ∈ l, Good x
theorem Goods.app {l m : List Ev5} (h : Goods l) (h' : Goods m) : Goods (l ++ m) := fun x hx => (List.mem_append.1 hx).elim (h x) (h' x)
theorem Goods.one {x : Ev5} (h : Good x) : Goods [x] := fun y hy => by
  rw [List.mem_singleton] at hy
  rw [hy]; exact h
theorem Goods.nil : Goods [] := fun y hy => by cases hy
theorem Goods.take {l : List Ev5} (h : Goods l) (k : Nat) : Goods (l.take k) := fun x hx => h x (List.mem_of_mem_take hx)
/-- The bytes of an event. -/
def eo (x : Ev5) : List Int := encO x.p x.o x.h x.a x.e
theorem eo_small {x : Ev5} : Small (eo x) := encO_small
theorem Good.wds {x : Ev5} (h : Good x) : Wds [x.p, x.o, x.h, x.a, x.e] := fun y hy => by
  obtain ⟨h1, h2, h3, h4, h5⟩ := chk_ok h.1
  have h6 := op_bd h3
  have h7 := h.2
  simp only [List.mem_cons, List.not_mem_nil, or_false] at hy
  rcases hy with rfl | rfl | rfl | rfl | rfl <;> omega
theorem Good.eo {x : Ev5} (h : Good x) : eo x = encN [x.p, x.o, x.h, x.a, x.e] := if_pos h.1
theorem Good.len {x : Ev5} (h : Good x) : (Go.Proofs.Ytlgoiccekgjhnaa.eo x).length ≤ 50 ∧ 5 ≤ (Go.Proofs.Ytlgoiccekgjhnaa.eo x).length := by
  have h1 := encN_len h.wds
  have h2 := encN_pos (l := [x.p, x.o, x.h, x.a, x.e])
  rw [h.eo]
  simp only [List.length_cons, List.length_nil, Nat.zero_add, Nat.reduceAdd, Nat.reduceMul] at h1 h2
  omega
/-- The event that bytes hold. -/
def evD (r : List Int) : Ev5 := ⟨rX r 0, rX r 1, rX r 2, rX r 3, rX r 4⟩
theorem Good.back {x : Ev5} (h : Good x) : dcE (Go.Proofs.Ytlgoiccekgjhnaa.eo x) = 0 ∧ evD (Go.Proofs.Ytlgoiccekgjhnaa.eo x) = x := by
  rw [h.eo]
  obtain ⟨g0, g1, g2, g3, g4, g5⟩ := dc_back h.1 h.2.1 h.2.2
  refine ⟨g0, ?_⟩
  unfold dcV at g1 g2 g3 g4 g5
  rw [if_pos g0] at g1 g2 g3 g4 g5
  unfold evD
  rw [g1, g2, g3, g4, g5]
/-- The record of an event behind the digest d. -/
def rcd (d : Int) (x : Ev5) : List Int := encB (eo x) ++ low 8 (chn d (eo x))
/-- The bytes of a log behind the digest d, and the digest at its end. -/
def lgB : Int → List Ev5 → List Int
  | _, [] => []
  | d, x :: l => rcd d x ++ lgB (chn d (eo x)) l
def lgD (d : Int) (l : List Ev5) : Int := lst d (l.map eo)
theorem lgD_nil (d : Int) : lgD d [] = d := rfl
theorem lgD_cons (d : Int) (x : Ev5) (l : List Ev5) : lgD d (x :: l) = lgD (chn d (eo x)) l := rfl
theorem lgD_app (d : Int) (l m : List Ev5) : lgD d (l ++ m) = lgD (lgD d l) m := by
  unfold lgD
  rw [List.map_append, lst_app]
theorem lgD_snoc (d : Int) (l : List Ev5) (x : Ev5) : lgD d (l ++ [x]) = chn (lgD d l) (eo x) := lgD_app d l [x]
theorem lgB_app : ∀ {l m : List Ev5} {d : Int}, lgB d (l ++ m) = lgB d l ++ lgB (lgD d l) m
  | [], _, _ => rfl
  | x :: l, m, d => by
    simp only [List.cons_append, lgB, lgD_cons]
    rw [lgB_app, List.append_assoc]
theorem lgB_snoc (d : Int) (l : List Ev5) (x : Ev5) : lgB d (l ++ [x]) = lgB d l ++ rcd (lgD d l) x := by
  rw [lgB_app]
  simp [lgB]
theorem encB_small {s : List Int} (h : Small s) : Small (encB s) := Small.app (enc_bytes _) h
theorem low_small (k : Nat) (x : Int) : Small (low k x) := (low_fit k x).small
theorem rcd_small {d : Int} {x : Ev5} : Small (rcd d x) := Small.app (encB_small eo_small) (low_small _ _)
theorem lgB_small : ∀ {l : List Ev5} {d : Int}, Small (lgB d l)
  | [], _, x, h => by cases h
  | y :: l, d, x, h => by
    simp only [lgB, List.mem_append] at h
    rcases h with h | h
    · exact rcd_small x h
    · exact lgB_small x h
theorem encB_len {s : List Int} (h : s.length ≤ 50) : (encB s).length = s.length + 1 := by
  unfold encB
  rw [List.length_append, enc_small (by omega)]
  simp
  omega
theorem rcd_len {d : Int} {x : Ev5} (h : Good x) : (rcd d x).length = (eo x).length + 9 := by
  unfold rcd
  rw [List.length_append, encB_len h.len.1, low_len]
theorem lgB_len : ∀ {l : List Ev5} {d : Int}, Goods l → (lgB d l).length ≤ 59 * l.length ∧ 14 * l.length ≤ (lgB d l).length
  | [], _, _ => by simp [lgB]
  | x :: l, d, h => by
    have h1 := rcd_len (d := d) (h x (by simp))
    have h2 := (h x (by simp)).len
    have h3 := lgB_len (l := l) (d := chn d (eo x)) (fun y hy => h y (by simp [hy]))
    simp only [lgB, List.length_append, List.length_cons]
    omega

/-- Reading a log: the first error, and the events before it; f is at least the number of bytes. -/
def dgOk (d : Int) (b : List Int) : Prop := rbE b = 0 ∧ 8 ≤ (b.length : Int) - rbK b ∧ dcE (rbS b) = 0 ∧ low 8 (chn d (rbS b)) = (b.drop (rbK b).toNat).take 8
def dgE : Nat → Int → List Int → Int
  | 0, _, _ => 0
  | f + 1, d, b => if b.length = 0 then 0 else if rbE b ≠ 0 then rbE b else if (b.length : Int) - rbK b < 8 then 2 else if dcE (rbS b) ≠ 0 then dcE (rbS b)
    else if low 8 (chn d (rbS b)) = (b.drop (rbK b).toNat).take 8 then dgE f (chn d (rbS b)) (b.drop ((rbK b).toNat + 8)) else 21
def dgL : Nat → Int → List Int → List Ev5
  | 0, _, _ => []
  | f + 1, d, b => if b.length = 0 then [] else evD (rbS b) :: dgL f (chn d (rbS b)) (b.drop ((rbK b).toNat + 8))
/-- What Decode returns. -/
def lgE (b : List Int) : Int := dgE b.length start b
def lgL (b : List Int) : List Ev5 := if lgE b = 0 then dgL b.length start b else []
section
variable {f : Nat} {d : Int} {b : List Int}
theorem dg_nil (hb : b.length = 0) : dgE f d b = 0 ∧ dgL f d b = [] := by
  cases f with
  | zero => exact ⟨rfl, rfl⟩
  | succ f => simp [dgE, dgL, hb]
theorem dg_err (hf : b.length ≤ f) (hb : 0 < b.length) (h : rbE b ≠ 0) : dgE f d b = rbE b := by
  obtain ⟨g, rfl⟩ : ∃ g, f = g + 1 := ⟨f - 1, by omega⟩
  simp only [dgE]
  rw [if_neg (by omega), if_pos h]
theorem dg_short (hf : b.length ≤ f) (hb : 0 < b.length) (h : rbE b = 0) (h8 : (b.length : Int) - rbK b < 8) : dgE f d b = 2 := by
  obtain ⟨g, rfl⟩ : ∃ g, f = g + 1 := ⟨f - 1, by omega⟩
  simp only [dgE]
  rw [if_neg (by omega), if_neg (by omega), if_pos h8]
theorem dg_bad (hf : b.length ≤ f) (hb : 0 < b.length) (h : rbE b = 0) (h8 : 8 ≤ (b.length : Int) - rbK b) (hd : dcE (rbS b) ≠ 0) : dgE f d b = dcE (rbS b) := by
  obtain ⟨g, rfl⟩ : ∃ g, f = g + 1 := ⟨f - 1, by omega⟩
  simp only [dgE]
  rw [if_neg (by omega), if_neg (by omega), if_neg (by omega), if_pos hd]
theorem dg_chain (hf : b.length ≤ f) (hb : 0 < b.length) (h : rbE b = 0) (h8 : 8 ≤ (b.length : Int) - rbK b) (hd : dcE (rbS b) = 0) (hc : low 8 (chn d (rbS b)) ≠ (b.drop (rbK b).toNat).take 8) : dgE f d b = 21 := by
  obtain ⟨g, rfl⟩ : ∃ g, f = g + 1 := ⟨f - 1, by omega⟩
  simp only [dgE]
  rw [if_neg (by omega), if_neg (by omega), if_neg (by omega), if_neg (by omega), if_neg hc]
theorem dg_more (hb : 0 < b.length) (h : rbE b = 0) (h8 : 8 ≤ (b.length : Int) - rbK b) (hd : dcE (rbS b) = 0) (hc : low 8 (chn d (rbS b)) = (b.drop (rbK b).toNat).take 8) :
    dgE (f + 1) d b = dgE f (chn d (rbS b)) (b.drop ((rbK b).toNat + 8)) ∧ dgL (f + 1) d b = evD (rbS b) :: dgL f (chn d (rbS b)) (b.drop ((rbK b).toNat + 8)) := by
  simp only [dgE, dgL]
  rw [if_neg (by omega), if_neg (by omega), if_neg (by omega), if_neg (by omega), if_pos hc, if_neg (by omega)]
  exact ⟨rfl, rfl⟩
end
/-- A record in front. -/
theorem rb_rcd {d : Int} {x : Ev5} (hx : Good x) (more : List Int) :
    rbE (rcd d x ++ more) = 0 ∧ rbS (rcd d x ++ more) = eo x ∧ (rbK (rcd d x ++ more)).toNat = (encB (eo x)).length ∧ (rbK (rcd d x ++ more)) = ((encB (eo x)).length : Int) := by
  obtain ⟨a, b, c⟩ := rb_enc (s := eo x) (by have := hx.len; omega) (low 8 (chn d (eo x)) ++ more)
  have e : rcd d x ++ more = encB (eo x) ++ (low 8 (chn d (eo x)) ++ more) := by simp [rcd]
  rw [e]
  exact ⟨a, b, by rw [c]; simp, c⟩
theorem dg_rcd {f : Nat} {d : Int} {x : Ev5} (hx : Good x) (more : List Int) :
    dgE (f + 1) d (rcd d x ++ more) = dgE f (chn d (eo x)) more ∧ dgL (f + 1) d (rcd d x ++ more) = x :: dgL f (chn d (eo x)) more := by
  obtain ⟨a, b, c, c'⟩ := rb_rcd (d := d) hx more
  obtain ⟨h1, h2⟩ := hx.back
  have hl := rcd_len (d := d) hx
  have hel := encB_len hx.len.1
  have hd1 : (rcd d x ++ more).drop (encB (eo x)).length = low 8 (chn d (eo x)) ++ more := by simp [rcd]
  have hd2 : (rcd d x ++ more).drop ((encB (eo x)).length + 8) = more := by
    rw [← List.drop_drop, hd1, List.drop_append, low_len, List.drop_of_length_le (by rw [low_len]; omega)]
    simp
  have hc : low 8 (chn d (rbS (rcd d x ++ more))) = ((rcd d x ++ more).drop (rbK (rcd d x ++ more)).toNat).take 8 := by
    rw [b, c, hd1, List.take_append, low_len, List.take_of_length_le (by rw [low_len]; omega)]
    simp
  obtain ⟨g1, g2⟩ := dg_more (f := f) (d := d) (b := rcd d x ++ more) (by rw [List.length_append]; omega) a (by rw [c', List.length_append]; omega) (by rw [b]; exact h1) hc
  rw [g1, g2, b, c, hd2, h2]
  exact ⟨rfl, rfl⟩
/-- Reading what was written. -/
theorem dg_back : ∀ {l : List Ev5} {f : Nat} {d : Int}, Goods l → (lgB d l).length ≤ f → dgE f d (lgB d l) = 0 ∧ dgL f d (lgB d l) = l
  | [], f, d, _, _ => dg_nil rfl
  | x :: l, f, d, h, hf => by
    have hx := h x (by simp)
    have hl := rcd_len (d := d) hx
    simp only [lgB, List.length_append] at hf ⊢
    obtain ⟨g, rfl⟩ : ∃ g, f = g + 1 := ⟨f - 1, by omega⟩
    obtain ⟨g1, g2⟩ := dg_rcd (f := g) (d := d) hx (lgB (chn d (eo x)) l)
    obtain ⟨g3, g4⟩ := dg_back (l := l) (f := g) (d := chn d (eo x)) (fun y hy => h y (by simp [hy])) (by omega)
    rw [g1, g2, g3, g4]
    exact ⟨rfl, rfl⟩
theorem lg_back {l : List Ev5} (h : Goods l) : lgE (lgB start l) = 0 ∧ lgL (lgB start l) = l := by
  obtain ⟨h1, h2⟩ := dg_back (d := start) h (Nat.le_refl _)
  have h3 : lgE (lgB start l) = 0 := h1
  exact ⟨h3, by unfold lgL; rw [if_pos h3, h2]⟩
/-- A log that was cut off. -/
theorem rcd_cut {f : Nat} {d : Int} {x : Ev5} (hx : Good x) {k : Nat} (h0 : 0 < k) (hk : k < (rcd d x).length) (hf : k ≤ f) : dgE f d ((rcd d x).take k) = 2 := by
  have hl := rcd_len (d := d) hx
  have hel := encB_len hx.len.1
  have hlen : ((rcd d x).take k).length = k := by rw [List.length_take]; omega
  by_cases h : k < (encB (eo x)).length
  · have e : (rcd d x).take k = (encB (eo x)).take k := by unfold rcd; rw [List.take_append_of_le_length (by omega)]
    have h2 := rb_prefix (s := eo x) (by have := hx.len; omega) h
    rw [← e] at h2
    rw [dg_err (by omega) (by omega) (by omega), h2]
  · have e : (rcd d x).take k = encB (eo x) ++ (low 8 (chn d (eo x))).take (k - (encB (eo x)).length) := by
      unfold rcd
      rw [List.take_append, List.take_of_length_le (by omega)]
    obtain ⟨a, b, c⟩ := rb_enc (s := eo x) (by have := hx.len; omega) ((low 8 (chn d (eo x))).take (k - (encB (eo x)).length))
    rw [← e] at a b c
    exact dg_short (by omega) (by omega) a (by rw [c, hlen]; omega)
theorem dg_cut : ∀ {l : List Ev5} {f : Nat} {d : Int} {k : Nat}, Goods l → k ≤ (lgB d l).length → k ≤ f → (∀ m, m ≤ l.length → (lgB d (l.take m)).length ≠ k) → dgE f d ((lgB d l).take k) = 2
  | [], f, d, k, _, hk, _, hne => by
    exact absurd (by simp [lgB] at hk ⊢; omega) (hne 0 (Nat.le_refl _))
  | x :: l, f, d, k, h, hk, hf, hne => by
    have hx := h x (by simp)
    have hl := rcd_len (d := d) hx
    have h0 : 0 < k := by
      have := hne 0 (Nat.zero_le _)
      simp [lgB] at this
      omega
    simp only [lgB]
    by_cases hk1 : k < (rcd d x).length
    · rw [List.take_append_of_le_length (by omega)]
      exact rcd_cut hx h0 hk1 hf
    · rw [List.take_append, List.take_of_length_le (by omega)]
      obtain ⟨g, rfl⟩ : ∃ g, f = g + 1 := ⟨f - 1, by omega⟩
      rw [(dg_rcd (f := g) (d := d) hx _).1]
      simp only [lgB, List.length_append] at hk
      refine dg_cut (fun y hy => h y (by simp [hy])) (by omega) (by omega) (fun m hm => ?_)
      have h3 := hne (m + 1) (by simp only [List.length_cons]; omega)
      simp only [List.take_succ_cons, lgB, List.length_append] at h3
      omega
/-- Where the records of a log end. -/
theorem lgB_take {l : List Ev5} {d : Int} (m : Nat) : (lgB d l).take (lgB d (l.take m)).length = lgB d (l.take m) := by
  have e : lgB d l = lgB d (l.take m) ++ lgB (lgD d (l.take m)) (l.drop m) := by rw [← lgB_app, List.take_append_drop]
  rw [e]
  simp

/-- An event that counts for the capacity. -/
def auc (x : Ev5) : Prop := x.o ≠ 32 ∧ x.o ≠ 33
instance (x : Ev5) : Decidable (auc x) := by unfold auc; infer_instance
/-- A record of an operation of a plugin. -/
def auo (p : Int) (x : Ev5) : Bool := decide (x.p = p ∧ auc x)
def rcN (l : List Ev5) (p : Int) : Nat := (l.filter (auo p)).length
theorem rcN_app (l m : List Ev5) (p : Int) : rcN (l ++ m) p = rcN l p + rcN m p := by unfold rcN; rw [List.filter_append, List.length_append]
theorem rcN_nil (p : Int) : rcN [] p = 0 := rfl
theorem rcN_one (x : Ev5) (p : Int) : rcN [x] p = if x.p = p ∧ auc x then 1 else 0 := by
  unfold rcN
  by_cases h : x.p = p ∧ auc x
  · have e : auo p x = true := decide_eq_true h
    rw [if_pos h]; simp [e]
  · have e : auo p x = false := decide_eq_false h
    rw [if_neg h]; simp [e]
theorem rcN_next {l : List Ev5} {i : Nat} {x : Ev5} (h : l[i]? = some x) (p : Int) : rcN (l.take (i + 1)) p = rcN (l.take i) p + if x.p = p ∧ auc x then 1 else 0 := by
  rw [List.take_add_one, h, rcN_app, Option.toList_some, rcN_one]
theorem rcN_le (l : List Ev5) (p : Int) : rcN l p ≤ l.length := List.length_filter_le _ _
/-- How many events of a plugin were missed; m lists the plugins. -/
def msN (m : List Int) (p : Int) : Nat := (m.filter (fun q => decide (q = p))).length
theorem msN_app (l m : List Int) (p : Int) : msN (l ++ m) p = msN l p + msN m p := by unfold msN; rw [List.filter_append, List.length_append]
theorem msN_one (x : Int) (p : Int) : msN [x] p = if x = p then 1 else 0 := by
  unfold msN
  by_cases h : x = p
  · rw [if_pos h]; simp [h]
  · rw [if_neg h]; simp [h]
theorem msN_next {l : List Int} {i : Nat} {x : Int} (h : l[i]? = some x) (p : Int) : msN (l.take (i + 1)) p = msN (l.take i) p + if x = p then 1 else 0 := by
  rw [List.take_add_one, h, msN_app, Option.toList_some, msN_one]
theorem msN_le (l : List Int) (p : Int) : msN l p ≤ l.length := List.length_filter_le _ _
/-- What Append returns, and the log behind it. -/
def apE (cap : Int) (l : List Ev5) (x : Ev5) : Int := if chkV x.p x.o x.e ≠ 0 then chkV x.p x.o x.e else if auc x ∧ cap ≤ rcN l x.p then 19 else 0
def apL (cap : Int) (l : List Ev5) (x : Ev5) : List Ev5 := if apE cap l x = 0 then l ++ [x] else l
theorem apL_ok {cap : Int} {l : List Ev5} {x : Ev5} (h : apE cap l x = 0) : apL cap l x = l ++ [x] := if_pos h
theorem apL_no {cap : Int} {l : List Ev5} {x : Ev5} (h : apE cap l x ≠ 0) : apL cap l x = l := if_neg h
theorem apE_chk {cap : Int} {l : List Ev5} {x : Ev5} (h : apE cap l x = 0) : chkV x.p x.o x.e = 0 := by
  unfold apE at h
  by_cases h1 : chkV x.p x.o x.e = 0
  · exact h1
  · rw [if_pos h1] at h; exact absurd h h1
theorem apL_good {cap : Int} {l : List Ev5} {x : Ev5} (hl : Goods l) (hw : (0 ≤ x.h ∧ x.h < 18446744073709551616) ∧ 0 ≤ x.a ∧ x.a < 18446744073709551616) : Goods (apL cap l x) := by
  by_cases h : apE cap l x = 0
  · rw [apL_ok h]
    exact hl.app (Goods.one ⟨apE_chk h, hw.1, hw.2⟩)
  · rw [apL_no h]; exact hl
/-- A plugin's room does not depend on the records of others. -/
theorem apL_other {cap : Int} {l : List Ev5} {x : Ev5} {p : Int} (h : x.p ≠ p) : rcN (apL cap l x) p = rcN l p := by
  by_cases h0 : apE cap l x = 0
  · rw [apL_ok h0, rcN_app, rcN_one, if_neg (fun h' => h h'.1)]; rfl
  · rw [apL_no h0]
end Go.Proofs.Ytlgoiccekgjhnaa
