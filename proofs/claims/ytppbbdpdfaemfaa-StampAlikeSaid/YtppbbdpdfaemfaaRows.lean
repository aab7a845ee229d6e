/-
  No cell of these rows narrows 'for every input' (looked for: loops, veiled, ifaces, maps, wideKeys, modest, calm, conditions, laid).
  DERIVED. THE GIVEN ROWS OF THIS SEAT. 4 by the template 'for every input the law returns true; each argument reads behind the call as it read before'; 0 by the template 'total and deterministic' (their statements: YtppbbdpdfaemfaaTotals.lean).
  GIVEN WITH THE SEED: the statements are not yours to turn. If you find one false, say at which input.
  Laid BY PROGRAM, IN A SANDBOX (cutbox-rows.mjs): the forced cells as the released guide's own fill.sh prints them over the translation 80d67c82ddb219d4… (all of the seat's roots in one cut). By AI agents, Wed Nov 11 2026. No macro, syntax, notation, axiom, sorry.
-/
import Derived.Test.YtppbbdpdfaemfaaChecked
import GoSem.Claim
import GoSem.ClaimJoined
import GoSem.ClaimMapViews
import Derived.JoinedTies
import Derived.KernelRfl
namespace Go.Proofs.Ytppbbdpdfaemfaa
/- THE CELL 'sum', in the pinned program and in every row, IS THE sha256 OF THE DUMP (.gsa) THAT YtppbbdpdfaemfaaProg.lean LOADS. Nothing in Lean hashes anything: it is a label: what it is worth is what the hold of that sum in a sandbox is worth. -/
noncomputable def Try.pinned : Pinned := { name := "ytppbbdpdfaemfaa", sum := "80d67c82ddb219d43b5079d053a2e54aecd90ef23e4cb83477a4f0d6afa25b73", checked := Try.checked }
namespace Rows
def none {H : Type} : Left H := { results := [], args := [] }

/-- 'quarrellaw08.StampDecides': WHATEVER THE INPUT: true; the input reads as it did. -/
def stampDecidesSpec : ChangeSpec := { name := "stampDecides", fn := fun _ => fun
  | [d1, d2, d3, d4, d5] => { results := [.lit (.bool true)], args := [d1, d2, d3, d4, d5] }
  | _ => none }
def stampDecidesRow : OpenClaim := { program := "ytppbbdpdfaemfaa", sum := "80d67c82ddb219d43b5079d053a2e54aecd90ef23e4cb83477a4f0d6afa25b73", func := "quarrel/quarrellaw08.StampDecides", spec := "stampDecides", apart := false }
def StampDecidesSaid : Prop := stampDecidesRow.holds Try.pinned (OpenSpec.ofChange stampDecidesSpec)

/-- ITS FALSE NEIGHBOUR: 'it returns false'. Refute it at one input. -/
def stampDecidesWrong : ChangeSpec := { name := "stampDecides", fn := fun _ => fun
  | [d1, d2, d3, d4, d5] => { results := [.lit (.bool false)], args := [d1, d2, d3, d4, d5] }
  | _ => none }
def StampDecidesWrongFalsely : Prop := stampDecidesRow.holds Try.pinned (OpenSpec.ofChange stampDecidesWrong)

/-- 'quarrellaw08.StampEnds': WHATEVER THE INPUT: true; the input reads as it did. -/
def stampEndsSpec : ChangeSpec := { name := "stampEnds", fn := fun _ => fun
  | [d1, d2, d3, d4, d5] => { results := [.lit (.bool true)], args := [d1, d2, d3, d4, d5] }
  | _ => none }
def stampEndsRow : OpenClaim := { program := "ytppbbdpdfaemfaa", sum := "80d67c82ddb219d43b5079d053a2e54aecd90ef23e4cb83477a4f0d6afa25b73", func := "quarrel/quarrellaw08.StampEnds", spec := "stampEnds", apart := false }
def StampEndsSaid : Prop := stampEndsRow.holds Try.pinned (OpenSpec.ofChange stampEndsSpec)

/-- ITS FALSE NEIGHBOUR: 'it returns false'. Refute it at one input. -/
def stampEndsWrong : ChangeSpec := { name := "stampEnds", fn := fun _ => fun
  | [d1, d2, d3, d4, d5] => { results := [.lit (.bool false)], args := [d1, d2, d3, d4, d5] }
  | _ => none }
def StampEndsWrongFalsely : Prop := stampEndsRow.holds Try.pinned (OpenSpec.ofChange stampEndsWrong)

/-- 'quarrellaw08.StampAlike': WHATEVER THE INPUT: true; the input reads as it did. -/
def stampAlikeSpec : ChangeSpec := { name := "stampAlike", fn := fun _ => fun
  | [d1, d2, d3, d4, d5] => { results := [.lit (.bool true)], args := [d1, d2, d3, d4, d5] }
  | _ => none }
def stampAlikeRow : OpenClaim := { program := "ytppbbdpdfaemfaa", sum := "80d67c82ddb219d43b5079d053a2e54aecd90ef23e4cb83477a4f0d6afa25b73", func := "quarrel/quarrellaw08.StampAlike", spec := "stampAlike", apart := false }
def StampAlikeSaid : Prop := stampAlikeRow.holds Try.pinned (OpenSpec.ofChange stampAlikeSpec)

/-- ITS FALSE NEIGHBOUR: 'it returns false'. Refute it at one input. -/
def stampAlikeWrong : ChangeSpec := { name := "stampAlike", fn := fun _ => fun
  | [d1, d2, d3, d4, d5] => { results := [.lit (.bool false)], args := [d1, d2, d3, d4, d5] }
  | _ => none }
def StampAlikeWrongFalsely : Prop := stampAlikeRow.holds Try.pinned (OpenSpec.ofChange stampAlikeWrong)

/-- 'quarrellaw08.StampElder': WHATEVER THE INPUT: true; the input reads as it did. -/
def stampElderSpec : ChangeSpec := { name := "stampElder", fn := fun _ => fun
  | [d1, d2, d3, d4] => { results := [.lit (.bool true)], args := [d1, d2, d3, d4] }
  | _ => none }
def stampElderRow : OpenClaim := { program := "ytppbbdpdfaemfaa", sum := "80d67c82ddb219d43b5079d053a2e54aecd90ef23e4cb83477a4f0d6afa25b73", func := "quarrel/quarrellaw08.StampElder", spec := "stampElder", apart := false }
def StampElderSaid : Prop := stampElderRow.holds Try.pinned (OpenSpec.ofChange stampElderSpec)

/-- ITS FALSE NEIGHBOUR: 'it returns false'. Refute it at one input. -/
def stampElderWrong : ChangeSpec := { name := "stampElder", fn := fun _ => fun
  | [d1, d2, d3, d4] => { results := [.lit (.bool false)], args := [d1, d2, d3, d4] }
  | _ => none }
def StampElderWrongFalsely : Prop := stampElderRow.holds Try.pinned (OpenSpec.ofChange stampElderWrong)

/- THE SECOND FORM. 'bulk': how many values and letters a reading holds, each counted each time it is reached (what is shared counts as often as it is met; a slice's spare places count too). A statement '..UptoSaid' is the law's where the arguments, and the package variables that the reading takes, are together of bulk at most 1048576: NARROWER than '..Said'. Prove '..Said' where nothing that the law and all that it calls make is longer than what came in: it says more and counts as full. Else prove '..UptoSaid'. A law counts once. -/
mutual
def uptoBulk {H : Type} : DataW H → Nat
  | .lit (.string bytes) => bytes.length + 1
  | .lit _ => 1
  | .nil => 1
  | .ptr d => uptoBulk d + 1
  | .slice elems spare => uptoBulkAll elems + uptoBulkAll spare + 1
  | .agg parts => uptoBulkAll parts + 1
  | .iface _ d => uptoBulk d + 1
  | .map entries => uptoBulkEntries entries + 1
  | .held _ => 1
def uptoBulkAll {H : Type} : List (DataW H) → Nat
  | [] => 0
  | d :: r => uptoBulk d + uptoBulkAll r
def uptoBulkEntries {H : Type} : List (Lit × DataW H) → Nat
  | [] => 0
  | x :: r => uptoBulkEntry x + uptoBulkEntries r
def uptoBulkEntry {H : Type} : Lit × DataW H → Nat
  | (.string bytes, d) => bytes.length + uptoBulk d + 1
  | (_, d) => uptoBulk d + 1
 end
def uptoSmall : (H : Type) → List (DataW H) → Bool := fun _ ds => decide (uptoBulkAll ds ≤ 1048576)
def OpenSpec.upto (s : _root_.Go.ChangeSpec) : _root_.Go.OpenSpec := { _root_.Go.OpenSpec.ofChange s with cond := some uptoSmall }

/-- 'quarrellaw08.StampDecides', WHERE WHAT IT READS IS OF BULK AT MOST 1048576: true; the input reads as it did. -/
def stampDecidesUptoRow : OpenClaim := { program := "ytppbbdpdfaemfaa", sum := "80d67c82ddb219d43b5079d053a2e54aecd90ef23e4cb83477a4f0d6afa25b73", func := "quarrel/quarrellaw08.StampDecides", spec := "stampDecides", apart := false, narrowed := true }
def StampDecidesUptoSaid : Prop := stampDecidesUptoRow.holds Try.pinned (OpenSpec.upto stampDecidesSpec)

/-- 'quarrellaw08.StampEnds', WHERE WHAT IT READS IS OF BULK AT MOST 1048576: true; the input reads as it did. -/
def stampEndsUptoRow : OpenClaim := { program := "ytppbbdpdfaemfaa", sum := "80d67c82ddb219d43b5079d053a2e54aecd90ef23e4cb83477a4f0d6afa25b73", func := "quarrel/quarrellaw08.StampEnds", spec := "stampEnds", apart := false, narrowed := true }
def StampEndsUptoSaid : Prop := stampEndsUptoRow.holds Try.pinned (OpenSpec.upto stampEndsSpec)

/-- 'quarrellaw08.StampAlike', WHERE WHAT IT READS IS OF BULK AT MOST 1048576: true; the input reads as it did. -/
def stampAlikeUptoRow : OpenClaim := { program := "ytppbbdpdfaemfaa", sum := "80d67c82ddb219d43b5079d053a2e54aecd90ef23e4cb83477a4f0d6afa25b73", func := "quarrel/quarrellaw08.StampAlike", spec := "stampAlike", apart := false, narrowed := true }
def StampAlikeUptoSaid : Prop := stampAlikeUptoRow.holds Try.pinned (OpenSpec.upto stampAlikeSpec)

/-- 'quarrellaw08.StampElder', WHERE WHAT IT READS IS OF BULK AT MOST 1048576: true; the input reads as it did. -/
def stampElderUptoRow : OpenClaim := { program := "ytppbbdpdfaemfaa", sum := "80d67c82ddb219d43b5079d053a2e54aecd90ef23e4cb83477a4f0d6afa25b73", func := "quarrel/quarrellaw08.StampElder", spec := "stampElder", apart := false, narrowed := true }
def StampElderUptoSaid : Prop := stampElderUptoRow.holds Try.pinned (OpenSpec.upto stampElderSpec)

end Rows
end Go.Proofs.Ytppbbdpdfaemfaa
