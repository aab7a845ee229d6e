/-
  No cell of these rows narrows 'for every input' (looked for: loops, veiled, ifaces, maps, wideKeys, modest, calm, conditions, laid).
  DERIVED. THE GIVEN ROWS OF THIS SEAT. 4 by the template 'for every input the law returns true; each argument reads behind the call as it read before'; 0 by the template 'total and deterministic' (their statements: YtjcfhpkebehglaaTotals.lean).
  GIVEN WITH THE SEED: the statements are not yours to turn. If you find one false, say at which input.
  Laid BY PROGRAM, IN A SANDBOX (cutbox-rows.mjs): the forced cells as the released guide's own fill.sh prints them over the translation 9f4e86a1b69c939e… (all of the seat's roots in one cut). By AI agents, Wed Nov 11 2026. No macro, syntax, notation, axiom, sorry.
-/
import Derived.Test.YtjcfhpkebehglaaChecked
import GoSem.Claim
import GoSem.ClaimJoined
import GoSem.ClaimMapViews
import Derived.JoinedTies
import Derived.KernelRfl
namespace Go.Proofs.Ytjcfhpkebehglaa
/- THE CELL 'sum', in the pinned program and in every row, IS THE sha256 OF THE DUMP (.gsa) THAT YtjcfhpkebehglaaProg.lean LOADS. Nothing in Lean hashes anything: it is a label: what it is worth is what the hold of that sum in a sandbox is worth. -/
noncomputable def Try.pinned : Pinned := { name := "ytjcfhpkebehglaa", sum := "9f4e86a1b69c939eabe8ce56cd0bd26f3826794834e9331f9abf181a35264f8d", checked := Try.checked }
namespace Rows
def none {H : Type} : Left H := { results := [], args := [] }

/-- 'quarrellaw07.KarmaDecides': WHATEVER THE INPUT: true; the input reads as it did. -/
def karmaDecidesSpec : ChangeSpec := { name := "karmaDecides", fn := fun _ => fun
  | [d1, d2, d3, d4, d5] => { results := [.lit (.bool true)], args := [d1, d2, d3, d4, d5] }
  | _ => none }
def karmaDecidesRow : OpenClaim := { program := "ytjcfhpkebehglaa", sum := "9f4e86a1b69c939eabe8ce56cd0bd26f3826794834e9331f9abf181a35264f8d", func := "quarrel/quarrellaw07.KarmaDecides", spec := "karmaDecides", apart := false }
def KarmaDecidesSaid : Prop := karmaDecidesRow.holds Try.pinned (OpenSpec.ofChange karmaDecidesSpec)

/-- ITS FALSE NEIGHBOUR: 'it returns false'. Refute it at one input. -/
def karmaDecidesWrong : ChangeSpec := { name := "karmaDecides", fn := fun _ => fun
  | [d1, d2, d3, d4, d5] => { results := [.lit (.bool false)], args := [d1, d2, d3, d4, d5] }
  | _ => none }
def KarmaDecidesWrongFalsely : Prop := karmaDecidesRow.holds Try.pinned (OpenSpec.ofChange karmaDecidesWrong)

/-- 'quarrellaw07.KarmaEnds': WHATEVER THE INPUT: true; the input reads as it did. -/
def karmaEndsSpec : ChangeSpec := { name := "karmaEnds", fn := fun _ => fun
  | [d1, d2, d3, d4] => { results := [.lit (.bool true)], args := [d1, d2, d3, d4] }
  | _ => none }
def karmaEndsRow : OpenClaim := { program := "ytjcfhpkebehglaa", sum := "9f4e86a1b69c939eabe8ce56cd0bd26f3826794834e9331f9abf181a35264f8d", func := "quarrel/quarrellaw07.KarmaEnds", spec := "karmaEnds", apart := false }
def KarmaEndsSaid : Prop := karmaEndsRow.holds Try.pinned (OpenSpec.ofChange karmaEndsSpec)

/-- ITS FALSE NEIGHBOUR: 'it returns false'. Refute it at one input. -/
def karmaEndsWrong : ChangeSpec := { name := "karmaEnds", fn := fun _ => fun
  | [d1, d2, d3, d4] => { results := [.lit (.bool false)], args := [d1, d2, d3, d4] }
  | _ => none }
def KarmaEndsWrongFalsely : Prop := karmaEndsRow.holds Try.pinned (OpenSpec.ofChange karmaEndsWrong)

/-- 'quarrellaw07.KarmaAlike': WHATEVER THE INPUT: true; the input reads as it did. -/
def karmaAlikeSpec : ChangeSpec := { name := "karmaAlike", fn := fun _ => fun
  | [d1, d2, d3, d4, d5] => { results := [.lit (.bool true)], args := [d1, d2, d3, d4, d5] }
  | _ => none }
def karmaAlikeRow : OpenClaim := { program := "ytjcfhpkebehglaa", sum := "9f4e86a1b69c939eabe8ce56cd0bd26f3826794834e9331f9abf181a35264f8d", func := "quarrel/quarrellaw07.KarmaAlike", spec := "karmaAlike", apart := false }
def KarmaAlikeSaid : Prop := karmaAlikeRow.holds Try.pinned (OpenSpec.ofChange karmaAlikeSpec)

/-- ITS FALSE NEIGHBOUR: 'it returns false'. Refute it at one input. -/
def karmaAlikeWrong : ChangeSpec := { name := "karmaAlike", fn := fun _ => fun
  | [d1, d2, d3, d4, d5] => { results := [.lit (.bool false)], args := [d1, d2, d3, d4, d5] }
  | _ => none }
def KarmaAlikeWrongFalsely : Prop := karmaAlikeRow.holds Try.pinned (OpenSpec.ofChange karmaAlikeWrong)

/-- 'quarrellaw07.KarmaGreater': WHATEVER THE INPUT: true; the input reads as it did. -/
def karmaGreaterSpec : ChangeSpec := { name := "karmaGreater", fn := fun _ => fun
  | [d1, d2, d3] => { results := [.lit (.bool true)], args := [d1, d2, d3] }
  | _ => none }
def karmaGreaterRow : OpenClaim := { program := "ytjcfhpkebehglaa", sum := "9f4e86a1b69c939eabe8ce56cd0bd26f3826794834e9331f9abf181a35264f8d", func := "quarrel/quarrellaw07.KarmaGreater", spec := "karmaGreater", apart := false }
def KarmaGreaterSaid : Prop := karmaGreaterRow.holds Try.pinned (OpenSpec.ofChange karmaGreaterSpec)

/-- ITS FALSE NEIGHBOUR: 'it returns false'. Refute it at one input. -/
def karmaGreaterWrong : ChangeSpec := { name := "karmaGreater", fn := fun _ => fun
  | [d1, d2, d3] => { results := [.lit (.bool false)], args := [d1, d2, d3] }
  | _ => none }
def KarmaGreaterWrongFalsely : Prop := karmaGreaterRow.holds Try.pinned (OpenSpec.ofChange karmaGreaterWrong)

/- THE SECOND FORM. 'bulk': how many values and letters a reading holds, each counted each time it is reached (what is shared counts as often as it is met; a slice's spare places count too). A statement '..UptoSaid' is the law's where the arguments, and the package variables that the reading takes, are together of bulk at most 1048576: NARROWER than '..Said'. Prove '..Said' where nothing that the law and all that it calls make is longer than what came in: it says more and counts as full. Else prove '..UptoSaid'. A law counts once. -/
mutual
def uptoBulk {H : Type} : DataW H → Nat
  | .lit (.string bytes) => bytes.length + 1
  | .lit _ => 1
  | .nil => 1
  | .ptr d => uptoBulk d + 1
  | .slice elems spare => uptoBulkAll elems + uptoBulkAll spare + 1
  | .agg parts => uptoBulkAll parts + 1
  | .iface _ d => uptoBulk d + 1
  | .map entries => uptoBulkEntries entries + 1
  | .held _ => 1
def uptoBulkAll {H : Type} : List (DataW H) → Nat
  | [] => 0
  | d :: r => uptoBulk d + uptoBulkAll r
def uptoBulkEntries {H : Type} : List (Lit × DataW H) → Nat
  | [] => 0
  | x :: r => uptoBulkEntry x + uptoBulkEntries r
def uptoBulkEntry {H : Type} : Lit × DataW H → Nat
  | (.string bytes, d) => bytes.length + uptoBulk d + 1
  | (_, d) => uptoBulk d + 1
 end
def uptoSmall : (H : Type) → List (DataW H) → Bool := fun _ ds => decide (uptoBulkAll ds ≤ 1048576)
def OpenSpec.upto (s : _root_.Go.ChangeSpec) : _root_.Go.OpenSpec := { _root_.Go.OpenSpec.ofChange s with cond := some uptoSmall }

/-- 'quarrellaw07.KarmaDecides', WHERE WHAT IT READS IS OF BULK AT MOST 1048576: true; the input reads as it did. -/
def karmaDecidesUptoRow : OpenClaim := { program := "ytjcfhpkebehglaa", sum := "9f4e86a1b69c939eabe8ce56cd0bd26f3826794834e9331f9abf181a35264f8d", func := "quarrel/quarrellaw07.KarmaDecides", spec := "karmaDecides", apart := false, narrowed := true }
def KarmaDecidesUptoSaid : Prop := karmaDecidesUptoRow.holds Try.pinned (OpenSpec.upto karmaDecidesSpec)

/-- 'quarrellaw07.KarmaEnds', WHERE WHAT IT READS IS OF BULK AT MOST 1048576: true; the input reads as it did. -/
def karmaEndsUptoRow : OpenClaim := { program := "ytjcfhpkebehglaa", sum := "9f4e86a1b69c939eabe8ce56cd0bd26f3826794834e9331f9abf181a35264f8d", func := "quarrel/quarrellaw07.KarmaEnds", spec := "karmaEnds", apart := false, narrowed := true }
def KarmaEndsUptoSaid : Prop := karmaEndsUptoRow.holds Try.pinned (OpenSpec.upto karmaEndsSpec)

/-- 'quarrellaw07.KarmaAlike', WHERE WHAT IT READS IS OF BULK AT MOST 1048576: true; the input reads as it did. -/
def karmaAlikeUptoRow : OpenClaim := { program := "ytjcfhpkebehglaa", sum := "9f4e86a1b69c939eabe8ce56cd0bd26f3826794834e9331f9abf181a35264f8d", func := "quarrel/quarrellaw07.KarmaAlike", spec := "karmaAlike", apart := false, narrowed := true }
def KarmaAlikeUptoSaid : Prop := karmaAlikeUptoRow.holds Try.pinned (OpenSpec.upto karmaAlikeSpec)

/-- 'quarrellaw07.KarmaGreater', WHERE WHAT IT READS IS OF BULK AT MOST 1048576: true; the input reads as it did. -/
def karmaGreaterUptoRow : OpenClaim := { program := "ytjcfhpkebehglaa", sum := "9f4e86a1b69c939eabe8ce56cd0bd26f3826794834e9331f9abf181a35264f8d", func := "quarrel/quarrellaw07.KarmaGreater", spec := "karmaGreater", apart := false, narrowed := true }
def KarmaGreaterUptoSaid : Prop := karmaGreaterUptoRow.holds Try.pinned (OpenSpec.upto karmaGreaterSpec)

end Rows
end Go.Proofs.Ytjcfhpkebehglaa
