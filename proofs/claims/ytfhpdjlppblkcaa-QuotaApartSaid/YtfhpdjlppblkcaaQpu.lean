/-
  Quotas as plain numbers: what adding, taking away and resetting give, and that what a plugin has stays within the limits. No conditions beyond those that each lemma states.
-/
import Derived.Test.YtfhpdjlppblkcaaRow
namespace Go.Proofs.Ytfhpdjlppblkcaa
set_option linter.unusedVariables false
set_option linter.unusedSimpArgs false

/-- Bytes, objects, borrows. -/
structure Q3 where
  b : Int
  o : Int
  h : Int
namespace Q3
def nul : Q3 := ⟨0, 0, 0⟩
def val (q : Q3) : Value := .agg #[.int .i64 q.b, .int .i64 q.o, .int .i64 q.h]
def neg (q : Q3) : Prop := q.b < 0 ∨ q.o < 0 ∨ q.h < 0
instance (q : Q3) : Decidable q.neg := inferInstanceAs (Decidable (_ ∨ _ ∨ _))
def add (x y : Q3) : Q3 := ⟨x.b + y.b, x.o + y.o, x.h + y.h⟩
def sub (x y : Q3) : Q3 := ⟨x.b - y.b, x.o - y.o, x.h - y.h⟩
/-- All three are numbers of 64 bits. -/
def In (q : Q3) : Prop := (-9223372036854775808 ≤ q.b ∧ q.b ≤ 9223372036854775807) ∧ (-9223372036854775808 ≤ q.o ∧ q.o ≤ 9223372036854775807) ∧ (-9223372036854775808 ≤ q.h ∧ q.h ≤ 9223372036854775807)
/-- One of the sums would be greater than its limit. -/
def over (l x q : Q3) : Prop := l.b < x.b + q.b ∨ l.o < x.o + q.o ∨ l.h < x.h + q.h
instance (l x q : Q3) : Decidable (over l x q) := inferInstanceAs (Decidable (_ ∨ _ ∨ _))
end Q3
/-- A number that is in use is not negative and at most its limit, or 0. -/
def G1 (l x : Int) : Prop := 0 ≤ x ∧ (x ≤ l ∨ x = 0)
/-- What a plugin has is within the limits. -/
def Gq (l x : Q3) : Prop := G1 l.b x.b ∧ G1 l.o x.o ∧ G1 l.h x.h
/-- What Fits and Add return, and what Sub returns. -/
def fitE (l x q : Q3) : Int := if q.neg then 1 else if Q3.over l x q then 16 else 0
def subE (x q : Q3) : Int := if q.neg ∨ (x.sub q).neg then 1 else 0
/-- What the plugins have: with another value at one of them; behind Add; behind Sub; behind Reset. -/
def upd (f : Int → Q3) (p : Int) (q : Q3) : Int → Q3 := fun z => if z = p then q else f z
def addF (l : Q3) (p : Int) (q : Q3) (f : Int → Q3) : Int → Q3 := if fitE l (f p) q = 0 then upd f p ((f p).add q) else f
def subF (p : Int) (q : Q3) (f : Int → Q3) : Int → Q3 := if subE (f p) q = 0 then upd f p ((f p).sub q) else f
def resF (p : Int) (f : Int → Q3) : Int → Q3 := upd f p Q3.nul
def Gd (l : Q3) (f : Int → Q3) : Prop := ∀ p, Gq l (f p)
section
variable {l x q : Q3} {f : Int → Q3} {p z : Int}
theorem upd_at : upd f p q p = q := if_pos rfl
theorem upd_ne (h : z ≠ p) : upd f p q z = f z := if_neg h
theorem fit_ok : fitE l x q = 0 ↔ ¬ q.neg ∧ ¬ Q3.over l x q := by
  unfold fitE
  split
  · simp_all
  · split <;> simp_all
theorem sub_ok : subE x q = 0 ↔ ¬ q.neg ∧ ¬ (x.sub q).neg := by
  unfold subE
  split
  · rename_i h
    exact ⟨fun e => by omega, fun e => absurd h (fun h => h.elim e.1 e.2)⟩
  · rename_i h
    exact ⟨fun _ => ⟨fun a => h (.inl a), fun a => h (.inr a)⟩, fun _ => rfl⟩
theorem Gq.nul : Gq l Q3.nul := ⟨⟨by simp [Q3.nul], .inr rfl⟩, ⟨by simp [Q3.nul], .inr rfl⟩, ⟨by simp [Q3.nul], .inr rfl⟩⟩
theorem Gd.nul : Gd l fun _ => Q3.nul := fun _ => Gq.nul
theorem Gd.upd (h : Gd l f) (hq : Gq l q) : Gd l (upd f p q) := fun z => by
  by_cases e : z = p
  · rw [e, upd_at]
    exact hq
  · rw [upd_ne e]
    exact h z
theorem Gd.res (h : Gd l f) : Gd l (resF p f) := h.upd Gq.nul
theorem G1.add {l x q : Int} (h : G1 l x) (hq : 0 ≤ q) (ho : ¬ l < x + q) : G1 l (x + q) := by unfold G1 at *; omega
theorem G1.sub {l x q : Int} (h : G1 l x) (hq : 0 ≤ q) (ho : 0 ≤ x - q) : G1 l (x - q) := by unfold G1 at *; omega
theorem not_neg (h : ¬ q.neg) : 0 ≤ q.b ∧ 0 ≤ q.o ∧ 0 ≤ q.h := by unfold Q3.neg at h; omega
theorem not_over (h : ¬ Q3.over l x q) : ¬ l.b < x.b + q.b ∧ ¬ l.o < x.o + q.o ∧ ¬ l.h < x.h + q.h := by unfold Q3.over at h; omega
theorem Gd.add (h : Gd l f) : Gd l (addF l p q f) := by
  unfold addF
  split
  · rename_i e
    obtain ⟨h1, h2⟩ := fit_ok.1 e
    obtain ⟨a1, a2, a3⟩ := not_neg h1
    obtain ⟨b1, b2, b3⟩ := not_over h2
    obtain ⟨c1, c2, c3⟩ := h p
    exact h.upd ⟨c1.add a1 b1, c2.add a2 b2, c3.add a3 b3⟩
  · exact h
theorem Gd.sub (h : Gd l f) : Gd l (subF p q f) := by
  unfold subF
  split
  · rename_i e
    obtain ⟨h1, h2⟩ := sub_ok.1 e
    obtain ⟨a1, a2, a3⟩ := not_neg h1
    obtain ⟨b1, b2, b3⟩ := not_neg h2
    obtain ⟨c1, c2, c3⟩ := h p
    exact h.upd ⟨c1.sub a1 b1, c2.sub a2 b2, c3.sub a3 b3⟩
  · exact h
/-- The limit minus what a plugin has is a number of 64 bits. -/
theorem G1.room {l x : Int} (h : G1 l x) (hl : -9223372036854775808 ≤ l ∧ l ≤ 9223372036854775807) : -9223372036854775808 ≤ l - x ∧ l - x ≤ 9223372036854775807 := by unfold G1 at h; omega
theorem G1.small {l x : Int} (h : G1 l x) (hl : -9223372036854775808 ≤ l ∧ l ≤ 9223372036854775807) : 0 ≤ x ∧ x ≤ 9223372036854775807 := by unfold G1 at h; omega
end
end Go.Proofs.Ytfhpdjlppblkcaa
