/- The contracts of a row of tickets (package word): a row is a block of two cells, its cap and how many were taken. -/
import Derived.Test.YtnaagcofgnmmlaaProg
import Derived.Test.YtnaagcofgnmmlaaBase
import Derived.RegionTactic
namespace Go.Proofs.Ytnaagcofgnmmlaa.wd
open Go.RowKit Go.Proofs.Ytnaagcofgnmmlaa.base

/-- Block b is a row of tickets with cap m, of which a were taken. -/
abbrev Row (w : World) (b : Nat) (m a : Int) : Prop := Two 100 w b m a

theorem new_in (m : Int) (w : World) (l : 0 ≤ m) (u : m ≤ 255) : Calls Try.prog 18 #[.int .i64 m] w fun e w' => e = .returned (.tuple #[.pointer (some ⟨w.heap.size, 0, none⟩), .int .i64 0]) ∧ w.alloc (.cells #[.int .i64 m, .int .i64 0] 100) = w' := by
  go_enter Try.func18, Try.ntmps18
  go_wp2
  go_ret2
  exact ⟨rfl, rfl⟩

/-- A new row, in a block of its own. -/
theorem new_made (m : Int) (w : World) (l : 0 ≤ m) (u : m ≤ 255) : Calls Try.prog 18 #[.int .i64 m] w fun e w' => ∃ b, e = .returned (.tuple #[.pointer (some ⟨b, 0, none⟩), .int .i64 0]) ∧ Hid (w.heap.size ≤ b) ∧ Hid (Row w' b m 0) ∧ Hid (w.grownBy w' none) := by
  refine (new_in m w l u).mono ?_
  rintro e w' ⟨rfl, rfl⟩
  exact ⟨_, rfl, Nat.le_refl _, Two.made _ _ _ _, gb_alloc (gb_refl _ _) _⟩

theorem new_out (m : Int) (w : World) (h : m < 0 ∨ 255 < m) : Calls Try.prog 18 #[.int .i64 m] w fun e w' => e = .returned (.tuple #[.pointer none, .int .i64 2]) ∧ w = w' := by
  rcases h with h | h
  · go_enter Try.func18, Try.ntmps18
    go_wp2
    go_ret2
    exact ⟨rfl, rfl⟩
  · have h' : ¬ m < 0 := by omega
    go_enter Try.func18, Try.ntmps18
    go_wp2
    go_ret2
    exact ⟨rfl, rfl⟩

end Go.Proofs.Ytnaagcofgnmmlaa.wd
