/-
  No cell of these rows narrows 'for every input' (looked for: loops, veiled, ifaces, maps, wideKeys, modest, calm, conditions, laid).
  DERIVED. THE GIVEN ROWS OF THIS SEAT. 5 by the template 'for every input the law returns true; each argument reads behind the call as it read before'; 0 by the template 'total and deterministic' (their statements: YtgnakcahmmdncaaTotals.lean).
  GIVEN WITH THE SEED: the statements are not yours to turn. If you find one false, say at which input.
  Laid BY PROGRAM, IN A SANDBOX (cutbox-rows.mjs): the forced cells as the released guide's own fill.sh prints them over the translation d2fb6013bf427c12… (all of the seat's roots in one cut). By AI agents, Wed Nov 11 2026. No macro, syntax, notation, axiom, sorry.
-/
import Derived.Test.YtgnakcahmmdncaaChecked
import GoSem.Claim
import GoSem.ClaimJoined
import GoSem.ClaimMapViews
import Derived.JoinedTies
import Derived.KernelRfl
namespace Go.Proofs.Ytgnakcahmmdncaa
/- THE CELL 'sum', in the pinned program and in every row, IS THE sha256 OF THE DUMP (.gsa) THAT YtgnakcahmmdncaaProg.lean LOADS. Nothing in Lean hashes anything: it is a label: what it is worth is what the hold of that sum in a sandbox is worth. -/
noncomputable def Try.pinned : Pinned := { name := "ytgnakcahmmdncaa", sum := "d2fb6013bf427c12fbfd3bb819f86eeb4ef6ed5e5131be58b74b09aac4685c84", checked := Try.checked }
namespace Rows
def none {H : Type} : Left H := { results := [], args := [] }

/-- 'quarrellaw17.HistTells': WHATEVER THE INPUT: true; the input reads as it did. -/
def histTellsSpec : ChangeSpec := { name := "histTells", fn := fun _ => fun
  | [d1, d2, d3] => { results := [.lit (.bool true)], args := [d1, d2, d3] }
  | _ => none }
def histTellsRow : OpenClaim := { program := "ytgnakcahmmdncaa", sum := "d2fb6013bf427c12fbfd3bb819f86eeb4ef6ed5e5131be58b74b09aac4685c84", func := "quarrel/quarrellaw17.HistTells", spec := "histTells", unfollowed := true, recurses := true, plainKeys := false, apart := false }
def HistTellsSaid : Prop := histTellsRow.holds Try.pinned (OpenSpec.ofChange histTellsSpec)

/-- ITS FALSE NEIGHBOUR: 'it returns false'. Refute it at one input. -/
def histTellsWrong : ChangeSpec := { name := "histTells", fn := fun _ => fun
  | [d1, d2, d3] => { results := [.lit (.bool false)], args := [d1, d2, d3] }
  | _ => none }
def HistTellsWrongFalsely : Prop := histTellsRow.holds Try.pinned (OpenSpec.ofChange histTellsWrong)

/-- 'quarrellaw17.HistBefore': WHATEVER THE INPUT: true; the input reads as it did. -/
def histBeforeSpec : ChangeSpec := { name := "histBefore", fn := fun _ => fun
  | [d1, d2] => { results := [.lit (.bool true)], args := [d1, d2] }
  | _ => none }
def histBeforeRow : OpenClaim := { program := "ytgnakcahmmdncaa", sum := "d2fb6013bf427c12fbfd3bb819f86eeb4ef6ed5e5131be58b74b09aac4685c84", func := "quarrel/quarrellaw17.HistBefore", spec := "histBefore", unfollowed := true, recurses := true, plainKeys := false, apart := false }
def HistBeforeSaid : Prop := histBeforeRow.holds Try.pinned (OpenSpec.ofChange histBeforeSpec)

/-- ITS FALSE NEIGHBOUR: 'it returns false'. Refute it at one input. -/
def histBeforeWrong : ChangeSpec := { name := "histBefore", fn := fun _ => fun
  | [d1, d2] => { results := [.lit (.bool false)], args := [d1, d2] }
  | _ => none }
def HistBeforeWrongFalsely : Prop := histBeforeRow.holds Try.pinned (OpenSpec.ofChange histBeforeWrong)

/-- 'quarrellaw17.HistBegins': WHATEVER THE INPUT: true; the input reads as it did. -/
def histBeginsSpec : ChangeSpec := { name := "histBegins", fn := fun _ => fun
  | [d1, d2] => { results := [.lit (.bool true)], args := [d1, d2] }
  | _ => none }
def histBeginsRow : OpenClaim := { program := "ytgnakcahmmdncaa", sum := "d2fb6013bf427c12fbfd3bb819f86eeb4ef6ed5e5131be58b74b09aac4685c84", func := "quarrel/quarrellaw17.HistBegins", spec := "histBegins", unfollowed := true, recurses := true, plainKeys := false, apart := false }
def HistBeginsSaid : Prop := histBeginsRow.holds Try.pinned (OpenSpec.ofChange histBeginsSpec)

/-- ITS FALSE NEIGHBOUR: 'it returns false'. Refute it at one input. -/
def histBeginsWrong : ChangeSpec := { name := "histBegins", fn := fun _ => fun
  | [d1, d2] => { results := [.lit (.bool false)], args := [d1, d2] }
  | _ => none }
def HistBeginsWrongFalsely : Prop := histBeginsRow.holds Try.pinned (OpenSpec.ofChange histBeginsWrong)

/-- 'quarrellaw17.HistParts': WHATEVER THE INPUT: true; the input reads as it did. -/
def histPartsSpec : ChangeSpec := { name := "histParts", fn := fun _ => fun
  | [d] => { results := [.lit (.bool true)], args := [d] }
  | _ => none }
def histPartsRow : OpenClaim := { program := "ytgnakcahmmdncaa", sum := "d2fb6013bf427c12fbfd3bb819f86eeb4ef6ed5e5131be58b74b09aac4685c84", func := "quarrel/quarrellaw17.HistParts", spec := "histParts", unfollowed := true, recurses := true, plainKeys := false, apart := false }
def HistPartsSaid : Prop := histPartsRow.holds Try.pinned (OpenSpec.ofChange histPartsSpec)

/-- ITS FALSE NEIGHBOUR: 'it returns false'. Refute it at one input. -/
def histPartsWrong : ChangeSpec := { name := "histParts", fn := fun _ => fun
  | [d] => { results := [.lit (.bool false)], args := [d] }
  | _ => none }
def HistPartsWrongFalsely : Prop := histPartsRow.holds Try.pinned (OpenSpec.ofChange histPartsWrong)

/-- 'quarrellaw17.HistPlaces': WHATEVER THE INPUT: true; the input reads as it did. -/
def histPlacesSpec : ChangeSpec := { name := "histPlaces", fn := fun _ => fun
  | [d] => { results := [.lit (.bool true)], args := [d] }
  | _ => none }
def histPlacesRow : OpenClaim := { program := "ytgnakcahmmdncaa", sum := "d2fb6013bf427c12fbfd3bb819f86eeb4ef6ed5e5131be58b74b09aac4685c84", func := "quarrel/quarrellaw17.HistPlaces", spec := "histPlaces", unfollowed := true, recurses := true, plainKeys := false, apart := false }
def HistPlacesSaid : Prop := histPlacesRow.holds Try.pinned (OpenSpec.ofChange histPlacesSpec)

/-- ITS FALSE NEIGHBOUR: 'it returns false'. Refute it at one input. -/
def histPlacesWrong : ChangeSpec := { name := "histPlaces", fn := fun _ => fun
  | [d] => { results := [.lit (.bool false)], args := [d] }
  | _ => none }
def HistPlacesWrongFalsely : Prop := histPlacesRow.holds Try.pinned (OpenSpec.ofChange histPlacesWrong)

/- THE SECOND FORM. 'bulk': how many values and letters a reading holds, each counted each time it is reached (what is shared counts as often as it is met; a slice's spare places count too). A statement '..UptoSaid' is the law's where the arguments, and the package variables that the reading takes, are together of bulk at most 1048576: NARROWER than '..Said'. Prove '..Said' where nothing that the law and all that it calls make is longer than what came in: it says more and counts as full. Else prove '..UptoSaid'. A law counts once. -/
mutual
def uptoBulk {H : Type} : DataW H → Nat
  | .lit (.string bytes) => bytes.length + 1
  | .lit _ => 1
  | .nil => 1
  | .ptr d => uptoBulk d + 1
  | .slice elems spare => uptoBulkAll elems + uptoBulkAll spare + 1
  | .agg parts => uptoBulkAll parts + 1
  | .iface _ d => uptoBulk d + 1
  | .map entries => uptoBulkEntries entries + 1
  | .held _ => 1
def uptoBulkAll {H : Type} : List (DataW H) → Nat
  | [] => 0
  | d :: r => uptoBulk d + uptoBulkAll r
def uptoBulkEntries {H : Type} : List (Lit × DataW H) → Nat
  | [] => 0
  | x :: r => uptoBulkEntry x + uptoBulkEntries r
def uptoBulkEntry {H : Type} : Lit × DataW H → Nat
  | (.string bytes, d) => bytes.length + uptoBulk d + 1
  | (_, d) => uptoBulk d + 1
 end
def uptoSmall : (H : Type) → List (DataW H) → Bool := fun _ ds => decide (uptoBulkAll ds ≤ 1048576)
def OpenSpec.upto (s : _root_.Go.ChangeSpec) : _root_.Go.OpenSpec := { _root_.Go.OpenSpec.ofChange s with cond := some uptoSmall }

/-- 'quarrellaw17.HistTells', WHERE WHAT IT READS IS OF BULK AT MOST 1048576: true; the input reads as it did. -/
def histTellsUptoRow : OpenClaim := { program := "ytgnakcahmmdncaa", sum := "d2fb6013bf427c12fbfd3bb819f86eeb4ef6ed5e5131be58b74b09aac4685c84", func := "quarrel/quarrellaw17.HistTells", spec := "histTells", unfollowed := true, recurses := true, plainKeys := false, apart := false, narrowed := true }
def HistTellsUptoSaid : Prop := histTellsUptoRow.holds Try.pinned (OpenSpec.upto histTellsSpec)

/-- 'quarrellaw17.HistBefore', WHERE WHAT IT READS IS OF BULK AT MOST 1048576: true; the input reads as it did. -/
def histBeforeUptoRow : OpenClaim := { program := "ytgnakcahmmdncaa", sum := "d2fb6013bf427c12fbfd3bb819f86eeb4ef6ed5e5131be58b74b09aac4685c84", func := "quarrel/quarrellaw17.HistBefore", spec := "histBefore", unfollowed := true, recurses := true, plainKeys := false, apart := false, narrowed := true }
def HistBeforeUptoSaid : Prop := histBeforeUptoRow.holds Try.pinned (OpenSpec.upto histBeforeSpec)

/-- 'quarrellaw17.HistBegins', WHERE WHAT IT READS IS OF BULK AT MOST 1048576: true; the input reads as it did. -/
def histBeginsUptoRow : OpenClaim := { program := "ytgnakcahmmdncaa", sum := "d2fb6013bf427c12fbfd3bb819f86eeb4ef6ed5e5131be58b74b09aac4685c84", func := "quarrel/quarrellaw17.HistBegins", spec := "histBegins", unfollowed := true, recurses := true, plainKeys := false, apart := false, narrowed := true }
def HistBeginsUptoSaid : Prop := histBeginsUptoRow.holds Try.pinned (OpenSpec.upto histBeginsSpec)

/-- 'quarrellaw17.HistParts', WHERE WHAT IT READS IS OF BULK AT MOST 1048576: true; the input reads as it did. -/
def histPartsUptoRow : OpenClaim := { program := "ytgnakcahmmdncaa", sum := "d2fb6013bf427c12fbfd3bb819f86eeb4ef6ed5e5131be58b74b09aac4685c84", func := "quarrel/quarrellaw17.HistParts", spec := "histParts", unfollowed := true, recurses := true, plainKeys := false, apart := false, narrowed := true }
def HistPartsUptoSaid : Prop := histPartsUptoRow.holds Try.pinned (OpenSpec.upto histPartsSpec)

/-- 'quarrellaw17.HistPlaces', WHERE WHAT IT READS IS OF BULK AT MOST 1048576: true; the input reads as it did. -/
def histPlacesUptoRow : OpenClaim := { program := "ytgnakcahmmdncaa", sum := "d2fb6013bf427c12fbfd3bb819f86eeb4ef6ed5e5131be58b74b09aac4685c84", func := "quarrel/quarrellaw17.HistPlaces", spec := "histPlaces", unfollowed := true, recurses := true, plainKeys := false, apart := false, narrowed := true }
def HistPlacesUptoSaid : Prop := histPlacesUptoRow.holds Try.pinned (OpenSpec.upto histPlacesSpec)

end Rows
end Go.Proofs.Ytgnakcahmmdncaa
