/- The contracts of package word (without Accesses), over whatever translation they lie in: a word is a block of two cells, its number and how often it was accessed; a row of tickets likewise, its cap and how many were taken. -/
import Derived.Test.YtnaagcofgnmmlaaProg
import Derived.Test.YtnaagcofgnmmlaaBase
import Derived.BigQuiet
import Derived.Deep.QuietTactic
namespace Go.Proofs.Ytnaagcofgnmmlaa.wd
open Go.RowKit Go.Proofs.Ytnaagcofgnmmlaa.base

/-- Block b is a word that has n, and was accessed a times. -/
abbrev Word (w : World) (b : Nat) (n a : Int) : Prop := Two 117 w b n a

theorem of_any (n : Int) (w : World) : Calls Try.prog 24 #[.int .i64 n] w fun e w' => e = .returned (.pointer (some ⟨w.heap.size, 0, none⟩)) ∧ w.alloc (.cells #[.int .i64 n, .int .i64 0] 117) = w' := by
  go_enter Try.func24, Try.ntmps24
  go_wp2
  go_ret
  exact ⟨rfl, rfl⟩

/-- A new word, in a block of its own. -/
theorem of_made (n : Int) (w : World) : Calls Try.prog 24 #[.int .i64 n] w fun e w' => ∃ b, e = .returned (.pointer (some ⟨b, 0, none⟩)) ∧ Hid (w.heap.size ≤ b) ∧ Hid (Word w' b n 0) ∧ Hid (w.grownBy w' none) := by
  refine (of_any n w).mono ?_
  rintro e w' ⟨rfl, rfl⟩
  exact ⟨_, rfl, Nat.le_refl _, Two.made _ _ _ _, gb_alloc (gb_refl _ _) _⟩



end Go.Proofs.Ytnaagcofgnmmlaa.wd
