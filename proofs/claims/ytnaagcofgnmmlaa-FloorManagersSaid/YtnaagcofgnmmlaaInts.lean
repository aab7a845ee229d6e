/- Lists of numbers as rows of cells; the records of the first objects: plain facts. -/
import Derived.Test.YtnaagcofgnmmlaaArenaR
import Derived.Test.YtnaagcofgnmmlaaMap
import Derived.Test.YtnaagcofgnmmlaaOpen
import Derived.RegionTactic
import Derived.Deep.RegionHeld3
namespace Go.Proofs.Ytnaagcofgnmmlaa.rf
open Go Go.RowKit Go.Proofs.Ytnaagcofgnmmlaa.base Go.Proofs.Ytnaagcofgnmmlaa.ar
set_option linter.unusedVariables false

/-- A list of numbers, as a row of cells. -/
def ints (l : List Int) : List Value := l.map fun x => .int .i64 x
theorem ints_length (l : List Int) : (ints l).length = l.length := by simp [ints]
theorem ints_snoc (l : List Int) (x : Int) : ints (l ++ [x]) = ints l ++ [.int .i64 x] := by simp [ints]
theorem ints_get (l : List Int) (j : Nat) (x : Int) (h : l[j]? = some x) : (ints l)[j]? = some (.int .i64 x) := by simp [ints, h]

/-- The records of the first k objects. -/
def firsts (z : Nat → Int) (k : Nat) : List Rc := (List.range k).flatMap fun i => [⟨1, z i, 0, 0, 0, 0, 0, 0, 0⟩, ⟨2, 0, -1, 2 * i, 2 * i, 0, 0, 0, 0⟩]
def heads (k : Nat) : List Int := (List.range k).map fun (i : Nat) => 2 * (i : Int) + 1
theorem firsts_succ (z : Nat → Int) (k : Nat) : firsts z (k + 1) = firsts z k ++ [⟨1, z k, 0, 0, 0, 0, 0, 0, 0⟩] ++ [⟨2, 0, -1, 2 * k, 2 * k, 0, 0, 0, 0⟩] := by simp [firsts, List.range_succ]
theorem firsts_length (z : Nat → Int) (k : Nat) : (firsts z k).length = 2 * k := by
  induction k with
  | zero => rfl
  | succ k ih => rw [firsts_succ, List.length_append, List.length_append, ih]; simp; omega
theorem heads_succ (k : Nat) : heads (k + 1) = heads k ++ [2 * (k : Int) + 1] := by simp [heads, List.range_succ]
theorem heads_length (k : Nat) : (heads k).length = k := by simp [heads]

/-- What a locator resolves to. -/
def rsv (x : Rc) (s : Int) : Int := if x.kind = 2 then (if x.owner = -1 ∨ s = 2 then x.new else x.old) else 0

theorem infoI : (Try.prog.info? 2).map (fun i => (i.zero, i.size, i.bytes)) = some (some (.int .i64 0), 1, 8) := by kernel_rfl

end Go.Proofs.Ytnaagcofgnmmlaa.rf
