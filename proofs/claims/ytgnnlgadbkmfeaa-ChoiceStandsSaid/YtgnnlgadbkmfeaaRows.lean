/-
  No cell of these rows narrows 'for every input' (looked for: loops, veiled, ifaces, maps, wideKeys, modest, calm, conditions, laid).
  DERIVED. THE GIVEN ROWS OF THIS SEAT. 4 by the template 'for every input the law returns true; each argument reads behind the call as it read before'; 0 by the template 'total and deterministic' (their statements: YtgnnlgadbkmfeaaTotals.lean).
  GIVEN WITH THE SEED: the statements are not yours to turn. If you find one false, say at which input.
  Laid BY PROGRAM, IN A SANDBOX (cutbox-rows.mjs): the forced cells as the released guide's own fill.sh prints them over the translation b9d11f98ebbc4101… (all of the seat's roots in one cut). By AI agents, Wed Nov 11 2026. No macro, syntax, notation, axiom, sorry.
-/
import Derived.Test.YtgnnlgadbkmfeaaChecked
import GoSem.Claim
import GoSem.ClaimJoined
import GoSem.ClaimMapViews
import Derived.JoinedTies
import Derived.KernelRfl
namespace Go.Proofs.Ytgnnlgadbkmfeaa
/- THE CELL 'sum', in the pinned program and in every row, IS THE sha256 OF THE DUMP (.gsa) THAT YtgnnlgadbkmfeaaProg.lean LOADS. Nothing in Lean hashes anything: it is a label: what it is worth is what the hold of that sum in a sandbox is worth. -/
noncomputable def Try.pinned : Pinned := { name := "ytgnnlgadbkmfeaa", sum := "b9d11f98ebbc4101dd5e2f7f2331fffe76e175a8dfc094a87cb6064806a172f5", checked := Try.checked }
namespace Rows
def none {H : Type} : Left H := { results := [], args := [] }

/-- 'quarrellaw05.ChoiceMet': WHATEVER THE INPUT: true; the input reads as it did. -/
def choiceMetSpec : ChangeSpec := { name := "choiceMet", fn := fun _ => fun
  | [d1, d2, d3, d4] => { results := [.lit (.bool true)], args := [d1, d2, d3, d4] }
  | _ => none }
def choiceMetRow : OpenClaim := { program := "ytgnnlgadbkmfeaa", sum := "b9d11f98ebbc4101dd5e2f7f2331fffe76e175a8dfc094a87cb6064806a172f5", func := "quarrel/quarrellaw05.ChoiceMet", spec := "choiceMet", apart := false }
def ChoiceMetSaid : Prop := choiceMetRow.holds Try.pinned (OpenSpec.ofChange choiceMetSpec)

/-- ITS FALSE NEIGHBOUR: 'it returns false'. Refute it at one input. -/
def choiceMetWrong : ChangeSpec := { name := "choiceMet", fn := fun _ => fun
  | [d1, d2, d3, d4] => { results := [.lit (.bool false)], args := [d1, d2, d3, d4] }
  | _ => none }
def ChoiceMetWrongFalsely : Prop := choiceMetRow.holds Try.pinned (OpenSpec.ofChange choiceMetWrong)

/-- 'quarrellaw05.ChoiceStands': WHATEVER THE INPUT: true; the input reads as it did. -/
def choiceStandsSpec : ChangeSpec := { name := "choiceStands", fn := fun _ => fun
  | [d1, d2, d3] => { results := [.lit (.bool true)], args := [d1, d2, d3] }
  | _ => none }
def choiceStandsRow : OpenClaim := { program := "ytgnnlgadbkmfeaa", sum := "b9d11f98ebbc4101dd5e2f7f2331fffe76e175a8dfc094a87cb6064806a172f5", func := "quarrel/quarrellaw05.ChoiceStands", spec := "choiceStands", apart := false }
def ChoiceStandsSaid : Prop := choiceStandsRow.holds Try.pinned (OpenSpec.ofChange choiceStandsSpec)

/-- ITS FALSE NEIGHBOUR: 'it returns false'. Refute it at one input. -/
def choiceStandsWrong : ChangeSpec := { name := "choiceStands", fn := fun _ => fun
  | [d1, d2, d3] => { results := [.lit (.bool false)], args := [d1, d2, d3] }
  | _ => none }
def ChoiceStandsWrongFalsely : Prop := choiceStandsRow.holds Try.pinned (OpenSpec.ofChange choiceStandsWrong)

/-- 'quarrellaw05.ChoiceOk': WHATEVER THE INPUT: true; the input reads as it did. -/
def choiceOkSpec : ChangeSpec := { name := "choiceOk", fn := fun _ => fun
  | [d1, d2, d3] => { results := [.lit (.bool true)], args := [d1, d2, d3] }
  | _ => none }
def choiceOkRow : OpenClaim := { program := "ytgnnlgadbkmfeaa", sum := "b9d11f98ebbc4101dd5e2f7f2331fffe76e175a8dfc094a87cb6064806a172f5", func := "quarrel/quarrellaw05.ChoiceOk", spec := "choiceOk", apart := false }
def ChoiceOkSaid : Prop := choiceOkRow.holds Try.pinned (OpenSpec.ofChange choiceOkSpec)

/-- ITS FALSE NEIGHBOUR: 'it returns false'. Refute it at one input. -/
def choiceOkWrong : ChangeSpec := { name := "choiceOk", fn := fun _ => fun
  | [d1, d2, d3] => { results := [.lit (.bool false)], args := [d1, d2, d3] }
  | _ => none }
def ChoiceOkWrongFalsely : Prop := choiceOkRow.holds Try.pinned (OpenSpec.ofChange choiceOkWrong)

/-- 'quarrellaw05.ChoiceKeeps': WHATEVER THE INPUT: true; the input reads as it did. -/
def choiceKeepsSpec : ChangeSpec := { name := "choiceKeeps", fn := fun _ => fun
  | [d1, d2, d3] => { results := [.lit (.bool true)], args := [d1, d2, d3] }
  | _ => none }
def choiceKeepsRow : OpenClaim := { program := "ytgnnlgadbkmfeaa", sum := "b9d11f98ebbc4101dd5e2f7f2331fffe76e175a8dfc094a87cb6064806a172f5", func := "quarrel/quarrellaw05.ChoiceKeeps", spec := "choiceKeeps", apart := false }
def ChoiceKeepsSaid : Prop := choiceKeepsRow.holds Try.pinned (OpenSpec.ofChange choiceKeepsSpec)

/-- ITS FALSE NEIGHBOUR: 'it returns false'. Refute it at one input. -/
def choiceKeepsWrong : ChangeSpec := { name := "choiceKeeps", fn := fun _ => fun
  | [d1, d2, d3] => { results := [.lit (.bool false)], args := [d1, d2, d3] }
  | _ => none }
def ChoiceKeepsWrongFalsely : Prop := choiceKeepsRow.holds Try.pinned (OpenSpec.ofChange choiceKeepsWrong)

/- THE SECOND FORM. 'bulk': how many values and letters a reading holds, each counted each time it is reached (what is shared counts as often as it is met; a slice's spare places count too). A statement '..UptoSaid' is the law's where the arguments, and the package variables that the reading takes, are together of bulk at most 1048576: NARROWER than '..Said'. Prove '..Said' where nothing that the law and all that it calls make is longer than what came in: it says more and counts as full. Else prove '..UptoSaid'. A law counts once. -/
mutual
def uptoBulk {H : Type} : DataW H → Nat
  | .lit (.string bytes) => bytes.length + 1
  | .lit _ => 1
  | .nil => 1
  | .ptr d => uptoBulk d + 1
  | .slice elems spare => uptoBulkAll elems + uptoBulkAll spare + 1
  | .agg parts => uptoBulkAll parts + 1
  | .iface _ d => uptoBulk d + 1
  | .map entries => uptoBulkEntries entries + 1
  | .held _ => 1
def uptoBulkAll {H : Type} : List (DataW H) → Nat
  | [] => 0
  | d :: r => uptoBulk d + uptoBulkAll r
def uptoBulkEntries {H : Type} : List (Lit × DataW H) → Nat
  | [] => 0
  | x :: r => uptoBulkEntry x + uptoBulkEntries r
def uptoBulkEntry {H : Type} : Lit × DataW H → Nat
  | (.string bytes, d) => bytes.length + uptoBulk d + 1
  | (_, d) => uptoBulk d + 1
 end
def uptoSmall : (H : Type) → List (DataW H) → Bool := fun _ ds => decide (uptoBulkAll ds ≤ 1048576)
def OpenSpec.upto (s : _root_.Go.ChangeSpec) : _root_.Go.OpenSpec := { _root_.Go.OpenSpec.ofChange s with cond := some uptoSmall }

/-- 'quarrellaw05.ChoiceMet', WHERE WHAT IT READS IS OF BULK AT MOST 1048576: true; the input reads as it did. -/
def choiceMetUptoRow : OpenClaim := { program := "ytgnnlgadbkmfeaa", sum := "b9d11f98ebbc4101dd5e2f7f2331fffe76e175a8dfc094a87cb6064806a172f5", func := "quarrel/quarrellaw05.ChoiceMet", spec := "choiceMet", apart := false, narrowed := true }
def ChoiceMetUptoSaid : Prop := choiceMetUptoRow.holds Try.pinned (OpenSpec.upto choiceMetSpec)

/-- 'quarrellaw05.ChoiceStands', WHERE WHAT IT READS IS OF BULK AT MOST 1048576: true; the input reads as it did. -/
def choiceStandsUptoRow : OpenClaim := { program := "ytgnnlgadbkmfeaa", sum := "b9d11f98ebbc4101dd5e2f7f2331fffe76e175a8dfc094a87cb6064806a172f5", func := "quarrel/quarrellaw05.ChoiceStands", spec := "choiceStands", apart := false, narrowed := true }
def ChoiceStandsUptoSaid : Prop := choiceStandsUptoRow.holds Try.pinned (OpenSpec.upto choiceStandsSpec)

/-- 'quarrellaw05.ChoiceOk', WHERE WHAT IT READS IS OF BULK AT MOST 1048576: true; the input reads as it did. -/
def choiceOkUptoRow : OpenClaim := { program := "ytgnnlgadbkmfeaa", sum := "b9d11f98ebbc4101dd5e2f7f2331fffe76e175a8dfc094a87cb6064806a172f5", func := "quarrel/quarrellaw05.ChoiceOk", spec := "choiceOk", apart := false, narrowed := true }
def ChoiceOkUptoSaid : Prop := choiceOkUptoRow.holds Try.pinned (OpenSpec.upto choiceOkSpec)

/-- 'quarrellaw05.ChoiceKeeps', WHERE WHAT IT READS IS OF BULK AT MOST 1048576: true; the input reads as it did. -/
def choiceKeepsUptoRow : OpenClaim := { program := "ytgnnlgadbkmfeaa", sum := "b9d11f98ebbc4101dd5e2f7f2331fffe76e175a8dfc094a87cb6064806a172f5", func := "quarrel/quarrellaw05.ChoiceKeeps", spec := "choiceKeeps", apart := false, narrowed := true }
def ChoiceKeepsUptoSaid : Prop := choiceKeepsUptoRow.holds Try.pinned (OpenSpec.upto choiceKeepsSpec)

end Rows
end Go.Proofs.Ytgnnlgadbkmfeaa
