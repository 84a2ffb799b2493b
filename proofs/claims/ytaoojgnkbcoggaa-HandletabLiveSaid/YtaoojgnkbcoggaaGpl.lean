/-
  The landed slots keep the bundle of contracts that the laws ask for. Conditions: at most 4096 slots.
-/
import Derived.Test.YtaoojgnkbcoggaaGpc
import Derived.Test.YtaoojgnkbcoggaaGsp
namespace Go.Proofs.Ytaoojgnkbcoggaa
open Go.ChangeShapes Go.WideShapes Go.RowKit
set_option maxHeartbeats 4000000

theorem pc_landed : Pc Sls where
  kept h hk hjk hc := ⟨h.1.kept hk hjk hc, h.2⟩
  new n first w c k hck := newS_any n first w c k hck
  issue w c k p N s d h hW hN hd := issS_any w c k p N s d h hW hN hd
  end_ w c k p N s x h hW hN := endS_any w c k p N s x h hW hN
  live w c k p N s x h hW := (liveS_any w c k p N s x h hW).mono fun _ _ he => ⟨he.1, he.2 ▸ Below.refl _ _⟩
  size w c k p N s h hW := (sizeS_any w c k p _ _ h.1).mono fun _ _ he => ⟨by rw [he.1, Gs.sts_len, hW.gl], he.2 ▸ Below.refl _ _⟩
  retired w c k p N s h hW hN := retS_any w c k p N s h hW hN
  pool w c k p N s h hW hN := poolS_any c k p _ _ w h.1 (by have h1 := hW.ct; have h2 := hW.g0; omega)
end Go.Proofs.Ytaoojgnkbcoggaa
