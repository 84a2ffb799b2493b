/-
  The landed log keeps the bundle. No conditions beyond the bundle's.
-/
import Derived.Test.YtlgoiccekgjhnaaLgd
import Derived.Test.YtlgoiccekgjhnaaAgc
namespace Go.Proofs.Ytlgoiccekgjhnaa
open Go.ChangeShapes Go.WideShapes Go.ChangeAt Go.RowKit
set_option linter.unusedVariables false
set_option linter.unusedSimpArgs false
set_option maxHeartbeats 4000000
set_option maxRecDepth 100000

theorem landed : AuC Lgl where
  lt := fun h => h.lt
  kept := fun h hk hjk hc => h.kept hk hjk hc
  newOk := newL_any
  append := fun x h hl hx => (appendL_any x h hl hx).mono fun e w' ⟨h1, h2, h3⟩ => ⟨h1, h2, h3⟩
  room := fun z h hl hz => by
    obtain ⟨last, _, hr⟩ := h.r
    exact roomL_any hr hz
  records := fun z h hl hz => by
    obtain ⟨last, _, hr⟩ := h.r
    exact recordsL_any hr hz
  missed := fun z h hl hz => by
    obtain ⟨last, _, hr⟩ := h.r
    exact missedL_any hr hz
  miss := fun z h hl hz => (missL_any h hz hl).mono fun e w' ⟨h1, h2, h3⟩ => ⟨h1, h2, h3⟩
  len := fun h hl => by
    obtain ⟨last, _, hr⟩ := h.r
    exact lenL_any hr
  bytes := fun h hl hg => by
    obtain ⟨last, _, hr⟩ := h.r
    exact bytesL_any hr hg hl
  digest := fun h hl hg => by
    obtain ⟨last, hl', hr⟩ := h.r
    exact digestL_any hr hl'
  decode := decodeL_any
end Go.Proofs.Ytlgoiccekgjhnaa
