/- The contracts of a row of tickets (package word): a row is a block of two cells, its cap and how many were taken. -/
import Derived.Test.YtocjbbfeegmkaaaProg
import Derived.Test.YtocjbbfeegmkaaaBase
import Derived.RegionTactic
namespace Go.Proofs.Ytocjbbfeegmkaaa.wd
open Go.RowKit Go.Proofs.Ytocjbbfeegmkaaa.base

/-- Block b is a row of tickets with cap m, of which a were taken. -/
abbrev Row (w : World) (b : Nat) (m a : Int) : Prop := Two 102 w b m a

theorem new_in (m : Int) (w : World) (l : 0 ≤ m) (u : m ≤ 255) : Calls Try.prog 62 #[.int .i64 m] w fun e w' => e = .returned (.tuple #[.pointer (some ⟨w.heap.size, 0, none⟩), .int .i64 0]) ∧ w.alloc (.cells #[.int .i64 m, .int .i64 0] 102) = w' := by
  go_enter Try.func62, Try.ntmps62
  go_wp2
  go_ret2
  exact ⟨rfl, rfl⟩

/-- A new row, in a block of its own. -/
theorem new_made (m : Int) (w : World) (l : 0 ≤ m) (u : m ≤ 255) : Calls Try.prog 62 #[.int .i64 m] w fun e w' => ∃ b, e = .returned (.tuple #[.pointer (some ⟨b, 0, none⟩), .int .i64 0]) ∧ Hid (w.heap.size ≤ b) ∧ Hid (Row w' b m 0) ∧ Hid (w.grownBy w' none) := by
  refine (new_in m w l u).mono ?_
  rintro e w' ⟨rfl, rfl⟩
  exact ⟨_, rfl, Nat.le_refl _, Two.made _ _ _ _, gb_alloc (gb_refl _ _) _⟩

theorem new_out (m : Int) (w : World) (h : m < 0 ∨ 255 < m) : Calls Try.prog 62 #[.int .i64 m] w fun e w' => e = .returned (.tuple #[.pointer none, .int .i64 2]) ∧ w = w' := by
  rcases h with h | h
  · go_enter Try.func62, Try.ntmps62
    go_wp2
    go_ret2
    exact ⟨rfl, rfl⟩
  · have h' : ¬ m < 0 := by omega
    go_enter Try.func62, Try.ntmps62
    go_wp2
    go_ret2
    exact ⟨rfl, rfl⟩

theorem take_nil (w : World) : Calls Try.prog 28 #[.pointer none] w fun e w' => e = .returned (.tuple #[.int .i64 0, .int .i64 6]) ∧ w = w' := by
  go_enter Try.func28, Try.ntmps28
  go_wp2
  go_ret2
  exact ⟨rfl, rfl⟩

theorem taken_nil (w : World) : Calls Try.prog 26 #[.pointer none] w fun e w' => e = .returned (.int .i64 0) ∧ w = w' := by
  go_enter Try.func26, Try.ntmps26
  go_wp2
  go_ret
  exact ⟨rfl, rfl⟩

theorem taken_any (b : Nat) (m a : Int) (w : World) (h : Row w b m a) : Calls Try.prog 26 #[.pointer (some ⟨b, 0, none⟩)] w fun e w' => e = .returned (.int .i64 a) ∧ w = w' := by
  have h1 := h.c1
  clear h
  go_enter Try.func26, Try.ntmps26
  go_wp2
  go_ret
  exact ⟨rfl, rfl⟩

theorem take_more (b : Nat) (m a : Int) (w : World) (h : Row w b m a) (l : 0 ≤ a) (u : a < m) (v : m ≤ 255) : Calls Try.prog 28 #[.pointer (some ⟨b, 0, none⟩)] w fun e w' => e = .returned (.tuple #[.int .i64 a, .int .i64 0]) ∧ Hid (Row w' b m (a + 1)) ∧ Hid (w.grownBy w' (some b)) := by
  have h0 := h.c0
  have h1 := h.c1
  have f1 := h.f1
  have hb := h.lt
  have H := Lib.hid h
  have hn : ¬ m ≤ a := by omega
  clear h
  go_enter Try.func28, Try.ntmps28
  go_wp2
  go_quiet (fail)
  go_wp2
  go_ret2
  refine ⟨rfl, ?_, ?_⟩
  · exact (H.out.drewN _).set1 _
  · exact gb_setB (gb_drewN (gb_refl _ _) _) _

theorem take_end (b : Nat) (m a : Int) (w : World) (h : Row w b m a) (u : m ≤ a) : Calls Try.prog 28 #[.pointer (some ⟨b, 0, none⟩)] w fun e w' => e = .returned (.tuple #[.int .i64 0, .int .i64 5]) ∧ Hid (Row w' b m a) ∧ Hid (w.grownBy w' none) := by
  have h0 := h.c0
  have h1 := h.c1
  have hb := h.lt
  have H := Lib.hid h
  clear h
  go_enter Try.func28, Try.ntmps28
  go_wp2
  go_quiet (fail)
  go_wp2
  go_ret2
  exact ⟨rfl, H.out.drewN _, gb_drewN (gb_refl _ _) _⟩
end Go.Proofs.Ytocjbbfeegmkaaa.wd
