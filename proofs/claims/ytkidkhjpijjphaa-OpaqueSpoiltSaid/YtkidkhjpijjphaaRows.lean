/-
  No cell of these rows narrows 'for every input' (looked for: loops, veiled, ifaces, maps, wideKeys, modest, calm, conditions, laid).
  DERIVED. THE GIVEN ROWS OF THIS SEAT. 5 by the template 'for every input the law returns true; each argument reads behind the call as it read before'; 0 by the template 'total and deterministic' (their statements: YtkidkhjpijjphaaTotals.lean).
  GIVEN WITH THE SEED: the statements are not yours to turn. If you find one false, say at which input.
  Laid BY PROGRAM, IN A SANDBOX (cutbox-rows.mjs): the forced cells as the released guide's own fill.sh prints them over the translation 6f68f5ef4f85dd3a… (all of the seat's roots in one cut). By AI agents, Wed Nov 11 2026. No macro, syntax, notation, axiom, sorry.
-/
import Derived.Test.YtkidkhjpijjphaaChecked
import GoSem.Claim
import GoSem.ClaimJoined
import GoSem.ClaimMapViews
import Derived.JoinedTies
import Derived.KernelRfl
namespace Go.Proofs.Ytkidkhjpijjphaa
/- THE CELL 'sum', in the pinned program and in every row, IS THE sha256 OF THE DUMP (.gsa) THAT YtkidkhjpijjphaaProg.lean LOADS. Nothing in Lean hashes anything: it is a label: what it is worth is what the hold of that sum in a sandbox is worth. -/
noncomputable def Try.pinned : Pinned := { name := "ytkidkhjpijjphaa", sum := "6f68f5ef4f85dd3a30e578b4125cb22c3ae1fbeeeaf3b6d08ab7531747954ba8", checked := Try.checked }
namespace Rows
def none {H : Type} : Left H := { results := [], args := [] }

/-- 'quarrellaw19.OpaqueChecks': WHATEVER THE INPUT: true; the input reads as it did. -/
def opaqueChecksSpec : ChangeSpec := { name := "opaqueChecks", fn := fun _ => fun
  | [d1, d2] => { results := [.lit (.bool true)], args := [d1, d2] }
  | _ => none }
def opaqueChecksRow : OpenClaim := { program := "ytkidkhjpijjphaa", sum := "6f68f5ef4f85dd3a30e578b4125cb22c3ae1fbeeeaf3b6d08ab7531747954ba8", func := "quarrel/quarrellaw19.OpaqueChecks", spec := "opaqueChecks", unfollowed := true, recurses := true, plainKeys := false, apart := false }
def OpaqueChecksSaid : Prop := opaqueChecksRow.holds Try.pinned (OpenSpec.ofChange opaqueChecksSpec)

/-- ITS FALSE NEIGHBOUR: 'it returns false'. Refute it at one input. -/
def opaqueChecksWrong : ChangeSpec := { name := "opaqueChecks", fn := fun _ => fun
  | [d1, d2] => { results := [.lit (.bool false)], args := [d1, d2] }
  | _ => none }
def OpaqueChecksWrongFalsely : Prop := opaqueChecksRow.holds Try.pinned (OpenSpec.ofChange opaqueChecksWrong)

/-- 'quarrellaw19.OpaqueOrder': WHATEVER THE INPUT: true; the input reads as it did. -/
def opaqueOrderSpec : ChangeSpec := { name := "opaqueOrder", fn := fun _ => fun
  | [d1, d2] => { results := [.lit (.bool true)], args := [d1, d2] }
  | _ => none }
def opaqueOrderRow : OpenClaim := { program := "ytkidkhjpijjphaa", sum := "6f68f5ef4f85dd3a30e578b4125cb22c3ae1fbeeeaf3b6d08ab7531747954ba8", func := "quarrel/quarrellaw19.OpaqueOrder", spec := "opaqueOrder", unfollowed := true, recurses := true, plainKeys := false, apart := false }
def OpaqueOrderSaid : Prop := opaqueOrderRow.holds Try.pinned (OpenSpec.ofChange opaqueOrderSpec)

/-- ITS FALSE NEIGHBOUR: 'it returns false'. Refute it at one input. -/
def opaqueOrderWrong : ChangeSpec := { name := "opaqueOrder", fn := fun _ => fun
  | [d1, d2] => { results := [.lit (.bool false)], args := [d1, d2] }
  | _ => none }
def OpaqueOrderWrongFalsely : Prop := opaqueOrderRow.holds Try.pinned (OpenSpec.ofChange opaqueOrderWrong)

/-- 'quarrellaw19.OpaqueSpoilt': WHATEVER THE INPUT: true; the input reads as it did. -/
def opaqueSpoiltSpec : ChangeSpec := { name := "opaqueSpoilt", fn := fun _ => fun
  | [d1, d2, d3, d4] => { results := [.lit (.bool true)], args := [d1, d2, d3, d4] }
  | _ => none }
def opaqueSpoiltRow : OpenClaim := { program := "ytkidkhjpijjphaa", sum := "6f68f5ef4f85dd3a30e578b4125cb22c3ae1fbeeeaf3b6d08ab7531747954ba8", func := "quarrel/quarrellaw19.OpaqueSpoilt", spec := "opaqueSpoilt", unfollowed := true, recurses := true, plainKeys := false, apart := false }
def OpaqueSpoiltSaid : Prop := opaqueSpoiltRow.holds Try.pinned (OpenSpec.ofChange opaqueSpoiltSpec)

/-- ITS FALSE NEIGHBOUR: 'it returns false'. Refute it at one input. -/
def opaqueSpoiltWrong : ChangeSpec := { name := "opaqueSpoilt", fn := fun _ => fun
  | [d1, d2, d3, d4] => { results := [.lit (.bool false)], args := [d1, d2, d3, d4] }
  | _ => none }
def OpaqueSpoiltWrongFalsely : Prop := opaqueSpoiltRow.holds Try.pinned (OpenSpec.ofChange opaqueSpoiltWrong)

/-- 'quarrellaw19.OpaqueBegins': WHATEVER THE INPUT: true; the input reads as it did. -/
def opaqueBeginsSpec : ChangeSpec := { name := "opaqueBegins", fn := fun _ => fun
  | [d1, d2, d3] => { results := [.lit (.bool true)], args := [d1, d2, d3] }
  | _ => none }
def opaqueBeginsRow : OpenClaim := { program := "ytkidkhjpijjphaa", sum := "6f68f5ef4f85dd3a30e578b4125cb22c3ae1fbeeeaf3b6d08ab7531747954ba8", func := "quarrel/quarrellaw19.OpaqueBegins", spec := "opaqueBegins", unfollowed := true, recurses := true, plainKeys := false, apart := false }
def OpaqueBeginsSaid : Prop := opaqueBeginsRow.holds Try.pinned (OpenSpec.ofChange opaqueBeginsSpec)

/-- ITS FALSE NEIGHBOUR: 'it returns false'. Refute it at one input. -/
def opaqueBeginsWrong : ChangeSpec := { name := "opaqueBegins", fn := fun _ => fun
  | [d1, d2, d3] => { results := [.lit (.bool false)], args := [d1, d2, d3] }
  | _ => none }
def OpaqueBeginsWrongFalsely : Prop := opaqueBeginsRow.holds Try.pinned (OpenSpec.ofChange opaqueBeginsWrong)

/-- 'quarrellaw19.OpaqueWithin': WHATEVER THE INPUT: true; the input reads as it did. -/
def opaqueWithinSpec : ChangeSpec := { name := "opaqueWithin", fn := fun _ => fun
  | [d1, d2] => { results := [.lit (.bool true)], args := [d1, d2] }
  | _ => none }
def opaqueWithinRow : OpenClaim := { program := "ytkidkhjpijjphaa", sum := "6f68f5ef4f85dd3a30e578b4125cb22c3ae1fbeeeaf3b6d08ab7531747954ba8", func := "quarrel/quarrellaw19.OpaqueWithin", spec := "opaqueWithin", unfollowed := true, recurses := true, plainKeys := false, apart := false }
def OpaqueWithinSaid : Prop := opaqueWithinRow.holds Try.pinned (OpenSpec.ofChange opaqueWithinSpec)

/-- ITS FALSE NEIGHBOUR: 'it returns false'. Refute it at one input. -/
def opaqueWithinWrong : ChangeSpec := { name := "opaqueWithin", fn := fun _ => fun
  | [d1, d2] => { results := [.lit (.bool false)], args := [d1, d2] }
  | _ => none }
def OpaqueWithinWrongFalsely : Prop := opaqueWithinRow.holds Try.pinned (OpenSpec.ofChange opaqueWithinWrong)

/- THE SECOND FORM. 'bulk': how many values and letters a reading holds, each counted each time it is reached (what is shared counts as often as it is met; a slice's spare places count too). A statement '..UptoSaid' is the law's where the arguments, and the package variables that the reading takes, are together of bulk at most 1048576: NARROWER than '..Said'. Prove '..Said' where nothing that the law and all that it calls make is longer than what came in: it says more and counts as full. Else prove '..UptoSaid'. A law counts once. -/
mutual
def uptoBulk {H : Type} : DataW H → Nat
  | .lit (.string bytes) => bytes.length + 1
  | .lit _ => 1
  | .nil => 1
  | .ptr d => uptoBulk d + 1
  | .slice elems spare => uptoBulkAll elems + uptoBulkAll spare + 1
  | .agg parts => uptoBulkAll parts + 1
  | .iface _ d => uptoBulk d + 1
  | .map entries => uptoBulkEntries entries + 1
  | .held _ => 1
def uptoBulkAll {H : Type} : List (DataW H) → Nat
  | [] => 0
  | d :: r => uptoBulk d + uptoBulkAll r
def uptoBulkEntries {H : Type} : List (Lit × DataW H) → Nat
  | [] => 0
  | x :: r => uptoBulkEntry x + uptoBulkEntries r
def uptoBulkEntry {H : Type} : Lit × DataW H → Nat
  | (.string bytes, d) => bytes.length + uptoBulk d + 1
  | (_, d) => uptoBulk d + 1
 end
def uptoSmall : (H : Type) → List (DataW H) → Bool := fun _ ds => decide (uptoBulkAll ds ≤ 1048576)
def OpenSpec.upto (s : _root_.Go.ChangeSpec) : _root_.Go.OpenSpec := { _root_.Go.OpenSpec.ofChange s with cond := some uptoSmall }

/-- 'quarrellaw19.OpaqueChecks', WHERE WHAT IT READS IS OF BULK AT MOST 1048576: true; the input reads as it did. -/
def opaqueChecksUptoRow : OpenClaim := { program := "ytkidkhjpijjphaa", sum := "6f68f5ef4f85dd3a30e578b4125cb22c3ae1fbeeeaf3b6d08ab7531747954ba8", func := "quarrel/quarrellaw19.OpaqueChecks", spec := "opaqueChecks", unfollowed := true, recurses := true, plainKeys := false, apart := false, narrowed := true }
def OpaqueChecksUptoSaid : Prop := opaqueChecksUptoRow.holds Try.pinned (OpenSpec.upto opaqueChecksSpec)

/-- 'quarrellaw19.OpaqueOrder', WHERE WHAT IT READS IS OF BULK AT MOST 1048576: true; the input reads as it did. -/
def opaqueOrderUptoRow : OpenClaim := { program := "ytkidkhjpijjphaa", sum := "6f68f5ef4f85dd3a30e578b4125cb22c3ae1fbeeeaf3b6d08ab7531747954ba8", func := "quarrel/quarrellaw19.OpaqueOrder", spec := "opaqueOrder", unfollowed := true, recurses := true, plainKeys := false, apart := false, narrowed := true }
def OpaqueOrderUptoSaid : Prop := opaqueOrderUptoRow.holds Try.pinned (OpenSpec.upto opaqueOrderSpec)

/-- 'quarrellaw19.OpaqueSpoilt', WHERE WHAT IT READS IS OF BULK AT MOST 1048576: true; the input reads as it did. -/
def opaqueSpoiltUptoRow : OpenClaim := { program := "ytkidkhjpijjphaa", sum := "6f68f5ef4f85dd3a30e578b4125cb22c3ae1fbeeeaf3b6d08ab7531747954ba8", func := "quarrel/quarrellaw19.OpaqueSpoilt", spec := "opaqueSpoilt", unfollowed := true, recurses := true, plainKeys := false, apart := false, narrowed := true }
def OpaqueSpoiltUptoSaid : Prop := opaqueSpoiltUptoRow.holds Try.pinned (OpenSpec.upto opaqueSpoiltSpec)

/-- 'quarrellaw19.OpaqueBegins', WHERE WHAT IT READS IS OF BULK AT MOST 1048576: true; the input reads as it did. -/
def opaqueBeginsUptoRow : OpenClaim := { program := "ytkidkhjpijjphaa", sum := "6f68f5ef4f85dd3a30e578b4125cb22c3ae1fbeeeaf3b6d08ab7531747954ba8", func := "quarrel/quarrellaw19.OpaqueBegins", spec := "opaqueBegins", unfollowed := true, recurses := true, plainKeys := false, apart := false, narrowed := true }
def OpaqueBeginsUptoSaid : Prop := opaqueBeginsUptoRow.holds Try.pinned (OpenSpec.upto opaqueBeginsSpec)

/-- 'quarrellaw19.OpaqueWithin', WHERE WHAT IT READS IS OF BULK AT MOST 1048576: true; the input reads as it did. -/
def opaqueWithinUptoRow : OpenClaim := { program := "ytkidkhjpijjphaa", sum := "6f68f5ef4f85dd3a30e578b4125cb22c3ae1fbeeeaf3b6d08ab7531747954ba8", func := "quarrel/quarrellaw19.OpaqueWithin", spec := "opaqueWithin", unfollowed := true, recurses := true, plainKeys := false, apart := false, narrowed := true }
def OpaqueWithinUptoSaid : Prop := opaqueWithinUptoRow.holds Try.pinned (OpenSpec.upto opaqueWithinSpec)

end Rows
end Go.Proofs.Ytkidkhjpijjphaa
