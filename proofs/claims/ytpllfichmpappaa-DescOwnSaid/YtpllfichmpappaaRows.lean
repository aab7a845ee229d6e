/-
  No cell of these rows narrows 'for every input' (looked for: loops, veiled, ifaces, maps, wideKeys, modest, calm, conditions, laid).
  DERIVED. THE GIVEN ROWS OF THIS SEAT. 3 by the template 'for every input the law returns true; each argument reads behind the call as it read before'; 0 by the template 'total and deterministic' (their statements: YtpllfichmpappaaTotals.lean).
  GIVEN WITH THE SEED: the statements are not yours to turn. If you find one false, say at which input.
  Laid BY PROGRAM, IN A SANDBOX (cutbox-rows.mjs): the forced cells as the released guide's own fill.sh prints them over the translation e5fd0d98add3783b… (all of the seat's roots in one cut). By AI agents, Wed Nov 11 2026. No macro, syntax, notation, axiom, sorry.
-/
import Derived.Test.YtpllfichmpappaaChecked
import GoSem.Claim
import GoSem.ClaimJoined
import GoSem.ClaimMapViews
import Derived.JoinedTies
import Derived.KernelRfl
namespace Go.Proofs.Ytpllfichmpappaa
/- THE CELL 'sum', in the pinned program and in every row, IS THE sha256 OF THE DUMP (.gsa) THAT YtpllfichmpappaaProg.lean LOADS. Nothing in Lean hashes anything: it is a label: what it is worth is what the hold of that sum in a sandbox is worth. -/
noncomputable def Try.pinned : Pinned := { name := "ytpllfichmpappaa", sum := "e5fd0d98add3783be1be20c853df3dbbc80b42778f9771e61f14f0f10f4096ff", checked := Try.checked }
namespace Rows
def none {H : Type} : Left H := { results := [], args := [] }

/-- 'quarrellaw03.DescOnce': WHATEVER THE INPUT: true; the input reads as it did. -/
def descOnceSpec : ChangeSpec := { name := "descOnce", fn := fun _ => fun
  | [d] => { results := [.lit (.bool true)], args := [d] }
  | _ => none }
def descOnceRow : OpenClaim := { program := "ytpllfichmpappaa", sum := "e5fd0d98add3783be1be20c853df3dbbc80b42778f9771e61f14f0f10f4096ff", func := "quarrel/quarrellaw03.DescOnce", spec := "descOnce", unfollowed := true, recurses := true, apart := false }
def DescOnceSaid : Prop := descOnceRow.holds Try.pinned (OpenSpec.ofChange descOnceSpec)

/-- ITS FALSE NEIGHBOUR: 'it returns false'. Refute it at one input. -/
def descOnceWrong : ChangeSpec := { name := "descOnce", fn := fun _ => fun
  | [d] => { results := [.lit (.bool false)], args := [d] }
  | _ => none }
def DescOnceWrongFalsely : Prop := descOnceRow.holds Try.pinned (OpenSpec.ofChange descOnceWrong)

/-- 'quarrellaw03.DescNone': WHATEVER THE INPUT: true; the input reads as it did. -/
def descNoneSpec : ChangeSpec := { name := "descNone", fn := fun _ => fun
  | [d1, d2, d3] => { results := [.lit (.bool true)], args := [d1, d2, d3] }
  | _ => none }
def descNoneRow : OpenClaim := { program := "ytpllfichmpappaa", sum := "e5fd0d98add3783be1be20c853df3dbbc80b42778f9771e61f14f0f10f4096ff", func := "quarrel/quarrellaw03.DescNone", spec := "descNone", unfollowed := true, recurses := true, apart := false }
def DescNoneSaid : Prop := descNoneRow.holds Try.pinned (OpenSpec.ofChange descNoneSpec)

/-- ITS FALSE NEIGHBOUR: 'it returns false'. Refute it at one input. -/
def descNoneWrong : ChangeSpec := { name := "descNone", fn := fun _ => fun
  | [d1, d2, d3] => { results := [.lit (.bool false)], args := [d1, d2, d3] }
  | _ => none }
def DescNoneWrongFalsely : Prop := descNoneRow.holds Try.pinned (OpenSpec.ofChange descNoneWrong)

/-- 'quarrellaw03.DescOwn': WHATEVER THE INPUT: true; the input reads as it did. -/
def descOwnSpec : ChangeSpec := { name := "descOwn", fn := fun _ => fun
  | [d1, d2, d3, d4] => { results := [.lit (.bool true)], args := [d1, d2, d3, d4] }
  | _ => none }
def descOwnRow : OpenClaim := { program := "ytpllfichmpappaa", sum := "e5fd0d98add3783be1be20c853df3dbbc80b42778f9771e61f14f0f10f4096ff", func := "quarrel/quarrellaw03.DescOwn", spec := "descOwn", unfollowed := true, recurses := true, apart := false }
def DescOwnSaid : Prop := descOwnRow.holds Try.pinned (OpenSpec.ofChange descOwnSpec)

/-- ITS FALSE NEIGHBOUR: 'it returns false'. Refute it at one input. -/
def descOwnWrong : ChangeSpec := { name := "descOwn", fn := fun _ => fun
  | [d1, d2, d3, d4] => { results := [.lit (.bool false)], args := [d1, d2, d3, d4] }
  | _ => none }
def DescOwnWrongFalsely : Prop := descOwnRow.holds Try.pinned (OpenSpec.ofChange descOwnWrong)

/- THE SECOND FORM. 'bulk': how many values and letters a reading holds, each counted each time it is reached (what is shared counts as often as it is met; a slice's spare places count too). A statement '..UptoSaid' is the law's where the arguments, and the package variables that the reading takes, are together of bulk at most 1048576: NARROWER than '..Said'. Prove '..Said' where nothing that the law and all that it calls make is longer than what came in: it says more and counts as full. Else prove '..UptoSaid'. A law counts once. -/
mutual
def uptoBulk {H : Type} : DataW H → Nat
  | .lit (.string bytes) => bytes.length + 1
  | .lit _ => 1
  | .nil => 1
  | .ptr d => uptoBulk d + 1
  | .slice elems spare => uptoBulkAll elems + uptoBulkAll spare + 1
  | .agg parts => uptoBulkAll parts + 1
  | .iface _ d => uptoBulk d + 1
  | .map entries => uptoBulkEntries entries + 1
  | .held _ => 1
def uptoBulkAll {H : Type} : List (DataW H) → Nat
  | [] => 0
  | d :: r => uptoBulk d + uptoBulkAll r
def uptoBulkEntries {H : Type} : List (Lit × DataW H) → Nat
  | [] => 0
  | x :: r => uptoBulkEntry x + uptoBulkEntries r
def uptoBulkEntry {H : Type} : Lit × DataW H → Nat
  | (.string bytes, d) => bytes.length + uptoBulk d + 1
  | (_, d) => uptoBulk d + 1
 end
def uptoSmall : (H : Type) → List (DataW H) → Bool := fun _ ds => decide (uptoBulkAll ds ≤ 1048576)
def OpenSpec.upto (s : _root_.Go.ChangeSpec) : _root_.Go.OpenSpec := { _root_.Go.OpenSpec.ofChange s with cond := some uptoSmall }

/-- 'quarrellaw03.DescOnce', WHERE WHAT IT READS IS OF BULK AT MOST 1048576: true; the input reads as it did. -/
def descOnceUptoRow : OpenClaim := { program := "ytpllfichmpappaa", sum := "e5fd0d98add3783be1be20c853df3dbbc80b42778f9771e61f14f0f10f4096ff", func := "quarrel/quarrellaw03.DescOnce", spec := "descOnce", unfollowed := true, recurses := true, apart := false, narrowed := true }
def DescOnceUptoSaid : Prop := descOnceUptoRow.holds Try.pinned (OpenSpec.upto descOnceSpec)

/-- 'quarrellaw03.DescNone', WHERE WHAT IT READS IS OF BULK AT MOST 1048576: true; the input reads as it did. -/
def descNoneUptoRow : OpenClaim := { program := "ytpllfichmpappaa", sum := "e5fd0d98add3783be1be20c853df3dbbc80b42778f9771e61f14f0f10f4096ff", func := "quarrel/quarrellaw03.DescNone", spec := "descNone", unfollowed := true, recurses := true, apart := false, narrowed := true }
def DescNoneUptoSaid : Prop := descNoneUptoRow.holds Try.pinned (OpenSpec.upto descNoneSpec)

/-- 'quarrellaw03.DescOwn', WHERE WHAT IT READS IS OF BULK AT MOST 1048576: true; the input reads as it did. -/
def descOwnUptoRow : OpenClaim := { program := "ytpllfichmpappaa", sum := "e5fd0d98add3783be1be20c853df3dbbc80b42778f9771e61f14f0f10f4096ff", func := "quarrel/quarrellaw03.DescOwn", spec := "descOwn", unfollowed := true, recurses := true, apart := false, narrowed := true }
def DescOwnUptoSaid : Prop := descOwnUptoRow.holds Try.pinned (OpenSpec.upto descOwnSpec)

end Rows
end Go.Proofs.Ytpllfichmpappaa
