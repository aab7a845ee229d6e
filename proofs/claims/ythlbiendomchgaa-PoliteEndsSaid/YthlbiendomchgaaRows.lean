/-
  No cell of these rows narrows 'for every input' (looked for: loops, veiled, ifaces, maps, wideKeys, modest, calm, conditions, laid).
  DERIVED. THE GIVEN ROWS OF THIS SEAT. 3 by the template 'for every input the law returns true; each argument reads behind the call as it read before'; 0 by the template 'total and deterministic' (their statements: YthlbiendomchgaaTotals.lean).
  GIVEN WITH THE SEED: the statements are not yours to turn. If you find one false, say at which input.
  Laid BY PROGRAM, IN A SANDBOX (cutbox-rows.mjs): the forced cells as the released guide's own fill.sh prints them over the translation a959d755dfbd5fd6… (all of the seat's roots in one cut). By AI agents, Wed Nov 11 2026. No macro, syntax, notation, axiom, sorry.
-/
import Derived.Test.YthlbiendomchgaaChecked
import GoSem.Claim
import GoSem.ClaimJoined
import GoSem.ClaimMapViews
import Derived.JoinedTies
import Derived.KernelRfl
namespace Go.Proofs.Ythlbiendomchgaa
/- THE CELL 'sum', in the pinned program and in every row, IS THE sha256 OF THE DUMP (.gsa) THAT YthlbiendomchgaaProg.lean LOADS. Nothing in Lean hashes anything: it is a label: what it is worth is what the hold of that sum in a sandbox is worth. -/
noncomputable def Try.pinned : Pinned := { name := "ythlbiendomchgaa", sum := "a959d755dfbd5fd6e04c286cd56ecdb2c68c570653d480fc66ed56741d6c96e1", checked := Try.checked }
namespace Rows
def none {H : Type} : Left H := { results := [], args := [] }

/-- 'quarrellaw06.PoliteDecides': WHATEVER THE INPUT: true; the input reads as it did. -/
def politeDecidesSpec : ChangeSpec := { name := "politeDecides", fn := fun _ => fun
  | [d1, d2, d3, d4, d5] => { results := [.lit (.bool true)], args := [d1, d2, d3, d4, d5] }
  | _ => none }
def politeDecidesRow : OpenClaim := { program := "ythlbiendomchgaa", sum := "a959d755dfbd5fd6e04c286cd56ecdb2c68c570653d480fc66ed56741d6c96e1", func := "quarrel/quarrellaw06.PoliteDecides", spec := "politeDecides", apart := false }
def PoliteDecidesSaid : Prop := politeDecidesRow.holds Try.pinned (OpenSpec.ofChange politeDecidesSpec)

/-- ITS FALSE NEIGHBOUR: 'it returns false'. Refute it at one input. -/
def politeDecidesWrong : ChangeSpec := { name := "politeDecides", fn := fun _ => fun
  | [d1, d2, d3, d4, d5] => { results := [.lit (.bool false)], args := [d1, d2, d3, d4, d5] }
  | _ => none }
def PoliteDecidesWrongFalsely : Prop := politeDecidesRow.holds Try.pinned (OpenSpec.ofChange politeDecidesWrong)

/-- 'quarrellaw06.PoliteEnds': WHATEVER THE INPUT: true; the input reads as it did. -/
def politeEndsSpec : ChangeSpec := { name := "politeEnds", fn := fun _ => fun
  | [d1, d2, d3, d4] => { results := [.lit (.bool true)], args := [d1, d2, d3, d4] }
  | _ => none }
def politeEndsRow : OpenClaim := { program := "ythlbiendomchgaa", sum := "a959d755dfbd5fd6e04c286cd56ecdb2c68c570653d480fc66ed56741d6c96e1", func := "quarrel/quarrellaw06.PoliteEnds", spec := "politeEnds", apart := false }
def PoliteEndsSaid : Prop := politeEndsRow.holds Try.pinned (OpenSpec.ofChange politeEndsSpec)

/-- ITS FALSE NEIGHBOUR: 'it returns false'. Refute it at one input. -/
def politeEndsWrong : ChangeSpec := { name := "politeEnds", fn := fun _ => fun
  | [d1, d2, d3, d4] => { results := [.lit (.bool false)], args := [d1, d2, d3, d4] }
  | _ => none }
def PoliteEndsWrongFalsely : Prop := politeEndsRow.holds Try.pinned (OpenSpec.ofChange politeEndsWrong)

/-- 'quarrellaw06.PoliteAlike': WHATEVER THE INPUT: true; the input reads as it did. -/
def politeAlikeSpec : ChangeSpec := { name := "politeAlike", fn := fun _ => fun
  | [d1, d2, d3, d4, d5] => { results := [.lit (.bool true)], args := [d1, d2, d3, d4, d5] }
  | _ => none }
def politeAlikeRow : OpenClaim := { program := "ythlbiendomchgaa", sum := "a959d755dfbd5fd6e04c286cd56ecdb2c68c570653d480fc66ed56741d6c96e1", func := "quarrel/quarrellaw06.PoliteAlike", spec := "politeAlike", apart := false }
def PoliteAlikeSaid : Prop := politeAlikeRow.holds Try.pinned (OpenSpec.ofChange politeAlikeSpec)

/-- ITS FALSE NEIGHBOUR: 'it returns false'. Refute it at one input. -/
def politeAlikeWrong : ChangeSpec := { name := "politeAlike", fn := fun _ => fun
  | [d1, d2, d3, d4, d5] => { results := [.lit (.bool false)], args := [d1, d2, d3, d4, d5] }
  | _ => none }
def PoliteAlikeWrongFalsely : Prop := politeAlikeRow.holds Try.pinned (OpenSpec.ofChange politeAlikeWrong)

/- THE SECOND FORM. 'bulk': how many values and letters a reading holds, each counted each time it is reached (what is shared counts as often as it is met; a slice's spare places count too). A statement '..UptoSaid' is the law's where the arguments, and the package variables that the reading takes, are together of bulk at most 1048576: NARROWER than '..Said'. Prove '..Said' where nothing that the law and all that it calls make is longer than what came in: it says more and counts as full. Else prove '..UptoSaid'. A law counts once. -/
mutual
def uptoBulk {H : Type} : DataW H → Nat
  | .lit (.string bytes) => bytes.length + 1
  | .lit _ => 1
  | .nil => 1
  | .ptr d => uptoBulk d + 1
  | .slice elems spare => uptoBulkAll elems + uptoBulkAll spare + 1
  | .agg parts => uptoBulkAll parts + 1
  | .iface _ d => uptoBulk d + 1
  | .map entries => uptoBulkEntries entries + 1
  | .held _ => 1
def uptoBulkAll {H : Type} : List (DataW H) → Nat
  | [] => 0
  | d :: r => uptoBulk d + uptoBulkAll r
def uptoBulkEntries {H : Type} : List (Lit × DataW H) → Nat
  | [] => 0
  | x :: r => uptoBulkEntry x + uptoBulkEntries r
def uptoBulkEntry {H : Type} : Lit × DataW H → Nat
  | (.string bytes, d) => bytes.length + uptoBulk d + 1
  | (_, d) => uptoBulk d + 1
 end
def uptoSmall : (H : Type) → List (DataW H) → Bool := fun _ ds => decide (uptoBulkAll ds ≤ 1048576)
def OpenSpec.upto (s : _root_.Go.ChangeSpec) : _root_.Go.OpenSpec := { _root_.Go.OpenSpec.ofChange s with cond := some uptoSmall }

/-- 'quarrellaw06.PoliteDecides', WHERE WHAT IT READS IS OF BULK AT MOST 1048576: true; the input reads as it did. -/
def politeDecidesUptoRow : OpenClaim := { program := "ythlbiendomchgaa", sum := "a959d755dfbd5fd6e04c286cd56ecdb2c68c570653d480fc66ed56741d6c96e1", func := "quarrel/quarrellaw06.PoliteDecides", spec := "politeDecides", apart := false, narrowed := true }
def PoliteDecidesUptoSaid : Prop := politeDecidesUptoRow.holds Try.pinned (OpenSpec.upto politeDecidesSpec)

/-- 'quarrellaw06.PoliteEnds', WHERE WHAT IT READS IS OF BULK AT MOST 1048576: true; the input reads as it did. -/
def politeEndsUptoRow : OpenClaim := { program := "ythlbiendomchgaa", sum := "a959d755dfbd5fd6e04c286cd56ecdb2c68c570653d480fc66ed56741d6c96e1", func := "quarrel/quarrellaw06.PoliteEnds", spec := "politeEnds", apart := false, narrowed := true }
def PoliteEndsUptoSaid : Prop := politeEndsUptoRow.holds Try.pinned (OpenSpec.upto politeEndsSpec)

/-- 'quarrellaw06.PoliteAlike', WHERE WHAT IT READS IS OF BULK AT MOST 1048576: true; the input reads as it did. -/
def politeAlikeUptoRow : OpenClaim := { program := "ythlbiendomchgaa", sum := "a959d755dfbd5fd6e04c286cd56ecdb2c68c570653d480fc66ed56741d6c96e1", func := "quarrel/quarrellaw06.PoliteAlike", spec := "politeAlike", apart := false, narrowed := true }
def PoliteAlikeUptoSaid : Prop := politeAlikeUptoRow.holds Try.pinned (OpenSpec.upto politeAlikeSpec)

end Rows
end Go.Proofs.Ythlbiendomchgaa
