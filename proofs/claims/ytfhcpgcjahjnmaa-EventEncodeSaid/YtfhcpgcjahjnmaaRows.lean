/-
  No cell of these rows narrows 'for every input' (looked for: loops, veiled, ifaces, maps, wideKeys, modest, calm, conditions, laid).
  DERIVED. THE GIVEN ROWS OF THIS SEAT. 5 by the template 'for every input the law returns true; each argument reads behind the call as it read before'; 0 by the template 'total and deterministic' (their statements: YtfhcpgcjahjnmaaTotals.lean).
  GIVEN WITH THE SEED: the statements are not yours to turn. If you find one false, say at which input.
  Laid BY PROGRAM, IN A SANDBOX (cutbox-rows.mjs): the forced cells as the released guide's own fill.sh prints them over the translation 9c53a9f1ff247a39… (all of the seat's roots in one cut). By AI agents, Wed Nov 11 2026. No macro, syntax, notation, axiom, sorry.
-/
import Derived.Test.YtfhcpgcjahjnmaaChecked
import GoSem.Claim
import GoSem.ClaimJoined
import GoSem.ClaimMapViews
import Derived.JoinedTies
import Derived.KernelRfl
namespace Go.Proofs.Ytfhcpgcjahjnmaa
/- THE CELL 'sum', in the pinned program and in every row, IS THE sha256 OF THE DUMP (.gsa) THAT YtfhcpgcjahjnmaaProg.lean LOADS. Nothing in Lean hashes anything: it is a label: what it is worth is what the hold of that sum in a sandbox is worth. -/
noncomputable def Try.pinned : Pinned := { name := "ytfhcpgcjahjnmaa", sum := "9c53a9f1ff247a398613af4f5dcb5ea281b9beb7ca037e5b24972eeed3f138f7", checked := Try.checked }
namespace Rows
def none {H : Type} : Left H := { results := [], args := [] }

/-- 'pluginhostlaw16.EventEncode': WHATEVER THE INPUT: true; the input reads as it did. -/
def eventEncodeSpec : ChangeSpec := { name := "eventEncode", fn := fun _ => fun
  | [d1, d2, d3, d4, d5] => { results := [.lit (.bool true)], args := [d1, d2, d3, d4, d5] }
  | _ => none }
def eventEncodeRow : OpenClaim := { program := "ytfhcpgcjahjnmaa", sum := "9c53a9f1ff247a398613af4f5dcb5ea281b9beb7ca037e5b24972eeed3f138f7", func := "pluginhost/pluginhostlaw16.EventEncode", spec := "eventEncode", apart := false }
def EventEncodeSaid : Prop := eventEncodeRow.holds Try.pinned (OpenSpec.ofChange eventEncodeSpec)

/-- ITS FALSE NEIGHBOUR: 'it returns false'. Refute it at one input. -/
def eventEncodeWrong : ChangeSpec := { name := "eventEncode", fn := fun _ => fun
  | [d1, d2, d3, d4, d5] => { results := [.lit (.bool false)], args := [d1, d2, d3, d4, d5] }
  | _ => none }
def EventEncodeWrongFalsely : Prop := eventEncodeRow.holds Try.pinned (OpenSpec.ofChange eventEncodeWrong)

/-- 'pluginhostlaw16.EventDecode': WHATEVER THE INPUT: true; the input reads as it did. -/
def eventDecodeSpec : ChangeSpec := { name := "eventDecode", fn := fun _ => fun
  | [d1, d2, d3, d4, d5] => { results := [.lit (.bool true)], args := [d1, d2, d3, d4, d5] }
  | _ => none }
def eventDecodeRow : OpenClaim := { program := "ytfhcpgcjahjnmaa", sum := "9c53a9f1ff247a398613af4f5dcb5ea281b9beb7ca037e5b24972eeed3f138f7", func := "pluginhost/pluginhostlaw16.EventDecode", spec := "eventDecode", apart := false }
def EventDecodeSaid : Prop := eventDecodeRow.holds Try.pinned (OpenSpec.ofChange eventDecodeSpec)

/-- ITS FALSE NEIGHBOUR: 'it returns false'. Refute it at one input. -/
def eventDecodeWrong : ChangeSpec := { name := "eventDecode", fn := fun _ => fun
  | [d1, d2, d3, d4, d5] => { results := [.lit (.bool false)], args := [d1, d2, d3, d4, d5] }
  | _ => none }
def EventDecodeWrongFalsely : Prop := eventDecodeRow.holds Try.pinned (OpenSpec.ofChange eventDecodeWrong)

/-- 'pluginhostlaw16.EventNumbers': WHATEVER THE INPUT: true; the input reads as it did. -/
def eventNumbersSpec : ChangeSpec := { name := "eventNumbers", fn := fun _ => fun
  | [d1, d2, d3, d4] => { results := [.lit (.bool true)], args := [d1, d2, d3, d4] }
  | _ => none }
def eventNumbersRow : OpenClaim := { program := "ytfhcpgcjahjnmaa", sum := "9c53a9f1ff247a398613af4f5dcb5ea281b9beb7ca037e5b24972eeed3f138f7", func := "pluginhost/pluginhostlaw16.EventNumbers", spec := "eventNumbers", apart := false }
def EventNumbersSaid : Prop := eventNumbersRow.holds Try.pinned (OpenSpec.ofChange eventNumbersSpec)

/-- ITS FALSE NEIGHBOUR: 'it returns false'. Refute it at one input. -/
def eventNumbersWrong : ChangeSpec := { name := "eventNumbers", fn := fun _ => fun
  | [d1, d2, d3, d4] => { results := [.lit (.bool false)], args := [d1, d2, d3, d4] }
  | _ => none }
def EventNumbersWrongFalsely : Prop := eventNumbersRow.holds Try.pinned (OpenSpec.ofChange eventNumbersWrong)

/-- 'pluginhostlaw16.EventBack': WHATEVER THE INPUT: true; the input reads as it did. -/
def eventBackSpec : ChangeSpec := { name := "eventBack", fn := fun _ => fun
  | [d1, d2, d3] => { results := [.lit (.bool true)], args := [d1, d2, d3] }
  | _ => none }
def eventBackRow : OpenClaim := { program := "ytfhcpgcjahjnmaa", sum := "9c53a9f1ff247a398613af4f5dcb5ea281b9beb7ca037e5b24972eeed3f138f7", func := "pluginhost/pluginhostlaw16.EventBack", spec := "eventBack", apart := false }
def EventBackSaid : Prop := eventBackRow.holds Try.pinned (OpenSpec.ofChange eventBackSpec)

/-- ITS FALSE NEIGHBOUR: 'it returns false'. Refute it at one input. -/
def eventBackWrong : ChangeSpec := { name := "eventBack", fn := fun _ => fun
  | [d1, d2, d3] => { results := [.lit (.bool false)], args := [d1, d2, d3] }
  | _ => none }
def EventBackWrongFalsely : Prop := eventBackRow.holds Try.pinned (OpenSpec.ofChange eventBackWrong)

/-- 'pluginhostlaw16.EventApart': WHATEVER THE INPUT: true; the input reads as it did. -/
def eventApartSpec : ChangeSpec := { name := "eventApart", fn := fun _ => fun
  | [d1, d2] => { results := [.lit (.bool true)], args := [d1, d2] }
  | _ => none }
def eventApartRow : OpenClaim := { program := "ytfhcpgcjahjnmaa", sum := "9c53a9f1ff247a398613af4f5dcb5ea281b9beb7ca037e5b24972eeed3f138f7", func := "pluginhost/pluginhostlaw16.EventApart", spec := "eventApart", apart := false }
def EventApartSaid : Prop := eventApartRow.holds Try.pinned (OpenSpec.ofChange eventApartSpec)

/-- ITS FALSE NEIGHBOUR: 'it returns false'. Refute it at one input. -/
def eventApartWrong : ChangeSpec := { name := "eventApart", fn := fun _ => fun
  | [d1, d2] => { results := [.lit (.bool false)], args := [d1, d2] }
  | _ => none }
def EventApartWrongFalsely : Prop := eventApartRow.holds Try.pinned (OpenSpec.ofChange eventApartWrong)

/- THE SECOND FORM. 'bulk': how many values and letters a reading holds, each counted each time it is reached (what is shared counts as often as it is met; a slice's spare places count too). A statement '..UptoSaid' is the law's where the arguments, and the package variables that the reading takes, are together of bulk at most 1048576: NARROWER than '..Said'. Prove '..Said' where nothing that the law and all that it calls make is longer than what came in: it says more and counts as full. Else prove '..UptoSaid'. A law counts once. -/
mutual
def uptoBulk {H : Type} : DataW H → Nat
  | .lit (.string bytes) => bytes.length + 1
  | .lit _ => 1
  | .nil => 1
  | .ptr d => uptoBulk d + 1
  | .slice elems spare => uptoBulkAll elems + uptoBulkAll spare + 1
  | .agg parts => uptoBulkAll parts + 1
  | .iface _ d => uptoBulk d + 1
  | .map entries => uptoBulkEntries entries + 1
  | .held _ => 1
def uptoBulkAll {H : Type} : List (DataW H) → Nat
  | [] => 0
  | d :: r => uptoBulk d + uptoBulkAll r
def uptoBulkEntries {H : Type} : List (Lit × DataW H) → Nat
  | [] => 0
  | x :: r => uptoBulkEntry x + uptoBulkEntries r
def uptoBulkEntry {H : Type} : Lit × DataW H → Nat
  | (.string bytes, d) => bytes.length + uptoBulk d + 1
  | (_, d) => uptoBulk d + 1
 end
def uptoSmall : (H : Type) → List (DataW H) → Bool := fun _ ds => decide (uptoBulkAll ds ≤ 1048576)
def OpenSpec.upto (s : _root_.Go.ChangeSpec) : _root_.Go.OpenSpec := { _root_.Go.OpenSpec.ofChange s with cond := some uptoSmall }

/-- 'pluginhostlaw16.EventEncode', WHERE WHAT IT READS IS OF BULK AT MOST 1048576: true; the input reads as it did. -/
def eventEncodeUptoRow : OpenClaim := { program := "ytfhcpgcjahjnmaa", sum := "9c53a9f1ff247a398613af4f5dcb5ea281b9beb7ca037e5b24972eeed3f138f7", func := "pluginhost/pluginhostlaw16.EventEncode", spec := "eventEncode", apart := false, narrowed := true }
def EventEncodeUptoSaid : Prop := eventEncodeUptoRow.holds Try.pinned (OpenSpec.upto eventEncodeSpec)

/-- 'pluginhostlaw16.EventDecode', WHERE WHAT IT READS IS OF BULK AT MOST 1048576: true; the input reads as it did. -/
def eventDecodeUptoRow : OpenClaim := { program := "ytfhcpgcjahjnmaa", sum := "9c53a9f1ff247a398613af4f5dcb5ea281b9beb7ca037e5b24972eeed3f138f7", func := "pluginhost/pluginhostlaw16.EventDecode", spec := "eventDecode", apart := false, narrowed := true }
def EventDecodeUptoSaid : Prop := eventDecodeUptoRow.holds Try.pinned (OpenSpec.upto eventDecodeSpec)

/-- 'pluginhostlaw16.EventNumbers', WHERE WHAT IT READS IS OF BULK AT MOST 1048576: true; the input reads as it did. -/
def eventNumbersUptoRow : OpenClaim := { program := "ytfhcpgcjahjnmaa", sum := "9c53a9f1ff247a398613af4f5dcb5ea281b9beb7ca037e5b24972eeed3f138f7", func := "pluginhost/pluginhostlaw16.EventNumbers", spec := "eventNumbers", apart := false, narrowed := true }
def EventNumbersUptoSaid : Prop := eventNumbersUptoRow.holds Try.pinned (OpenSpec.upto eventNumbersSpec)

/-- 'pluginhostlaw16.EventBack', WHERE WHAT IT READS IS OF BULK AT MOST 1048576: true; the input reads as it did. -/
def eventBackUptoRow : OpenClaim := { program := "ytfhcpgcjahjnmaa", sum := "9c53a9f1ff247a398613af4f5dcb5ea281b9beb7ca037e5b24972eeed3f138f7", func := "pluginhost/pluginhostlaw16.EventBack", spec := "eventBack", apart := false, narrowed := true }
def EventBackUptoSaid : Prop := eventBackUptoRow.holds Try.pinned (OpenSpec.upto eventBackSpec)

/-- 'pluginhostlaw16.EventApart', WHERE WHAT IT READS IS OF BULK AT MOST 1048576: true; the input reads as it did. -/
def eventApartUptoRow : OpenClaim := { program := "ytfhcpgcjahjnmaa", sum := "9c53a9f1ff247a398613af4f5dcb5ea281b9beb7ca037e5b24972eeed3f138f7", func := "pluginhost/pluginhostlaw16.EventApart", spec := "eventApart", apart := false, narrowed := true }
def EventApartUptoSaid : Prop := eventApartUptoRow.holds Try.pinned (OpenSpec.upto eventApartSpec)

end Rows
end Go.Proofs.Ytfhcpgcjahjnmaa
