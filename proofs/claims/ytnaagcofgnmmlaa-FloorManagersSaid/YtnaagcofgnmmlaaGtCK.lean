/- The contracts of package gate over a gate as one thing: a new one, the sight of any, and the example that all laws begin with. -/
import Derived.Test.YtnaagcofgnmmlaaGtBK
import Derived.Deep.RegionWith
namespace Go.Proofs.Ytnaagcofgnmmlaa.gate
open Go Go.RowKit Go.Proofs.Ytnaagcofgnmmlaa.base Go.Proofs.Ytnaagcofgnmmlaa.ch Go.Proofs.Ytnaagcofgnmmlaa.wd
set_option linter.unusedVariables false

theorem infoInt : (Try.prog.info? 3).map (fun i => (i.zero, i.size, i.bytes)) = some (some (.int .i64 0), 1, 8) := by kernel_rfl

theorem new_bad (n : Int) (hn : n < 1 ∨ 6 < n) (w : World) : Calls Try.prog 19 #[.int .i64 n] w fun e w' => e = .returned (.tuple #[.pointer none, .int .i64 2]) ∧ w = w' := by
  have hn' : n < 1 ∨ (¬ n < 1 ∧ 6 < n) := by omega
  clear hn
  rcases hn' with h | ⟨h, h1⟩
  all_goals
    go_enter Try.func19, Try.ntmps19
    go_wp2
    go_ret2
    exact ⟨rfl, rfl⟩

theorem new_any (n : Nat) (h0 : 1 ≤ n) (h6 : n ≤ 6) (w0 : Bas) (w : World) (R : List (Nat × TypeId × List Value)) (o : Own w0 w R) :
    Calls Try.prog 19 #[.int .i64 (n : Int)] w fun e w' => ∃ g, e = .returned (.tuple #[.pointer (some ⟨g, 0, none⟩), .int .i64 0]) ∧ Hid (Gt w0 w' g n false 0 0 (fun _ => 0) 0 R) := by
  have d1 : decide ((n : Int) < 1) = false := by simp; omega
  have d2 : decide (6 < (n : Int)) = false := by simp; omega
  have hmk := run_make_row' (P := Try.prog) 59 3 (.int .i64 0) 8 Try.underlying59 infoInt rfl .i64 .i64 n (by omega) (by omega)
  rw [made_vals] at hmk
  have O := Lib.hid o
  have H := Lib.hid (show 1 ≤ n ∧ n ≤ 6 from ⟨h0, h6⟩)
  clear o h0 h6
  go_enter Try.func19, Try.ntmps19
  go_wp2
  go_region_with (go_at_call 24; refine (of_any _ _).mono ?_; rintro e v1 ⟨rfl, rfl⟩)
  all_goals go_wp2
  all_goals go_ret2
  all_goals refine ⟨_, rfl, ?_⟩
  · have X := ((((O.out.alloc 117 [.int .i64 0, .int .i64 0]).alloc 3 (vals (fun _ => 0) n)).alloc 102 [.pointer (some ⟨w.heap.size, 0, none⟩), .int .i64 0, .slice (some ⟨w.heap.size + 1, 0, none⟩) n n]).drew).perm (List.Perm.cons _ (List.Perm.swap _ _ _))
    simp only [size_alloc] at X
    exact ⟨w.heap.size, w.heap.size + 1, 0, 0, H.out.2, .inl ⟨rfl, rfl, rfl, rfl⟩, by omega, by omega, X⟩
  · have X := ((O.out.alloc 3 (vals (fun _ => 0) n)).alloc 117 [.int .i64 0, .int .i64 0]).alloc 102 [.pointer (some ⟨w.heap.size + 1, 0, none⟩), .int .i64 0, .slice (some ⟨w.heap.size, 0, none⟩) n n]
    have X := X.drew
    simp only [size_alloc] at X
    exact ⟨w.heap.size + 1, w.heap.size, 0, 0, H.out.2, .inl ⟨rfl, rfl, rfl, rfl⟩, by omega, by omega, X⟩

/-- The pulse that a sight tells. -/
def pU (b : Bool) (t : Int) (z : Nat → Int) : Int := if b = true then z t.toNat else 0

end Go.Proofs.Ytnaagcofgnmmlaa.gate
