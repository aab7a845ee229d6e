/- The contracts of package lang's Ok, Right, Opens, and of the document's own (quarrelref11.Ok, Right, Same). -/
import Derived.Test.YtdohepenmejcaaaProg
import Derived.Test.YtdohepenmejcaaaLangM
import Derived.Test.YtdohepenmejcaaaOwn
import Derived.BigQuiet
import Derived.Deep.QuietTactic
import Derived.Deep.CutRange
import Derived.Deep.DeepCutAuto
import Derived.IntWalk
namespace Go.Proofs.Ytdohepenmejcaaa.lg
open Go Go.RowKit Go.Proofs.Ytdohepenmejcaaa.base
set_option linter.unusedVariables false

theorem ret_bool {a b : Bool} (h : a = b) : Ending.returned (.bool a) = .returned (.bool b) := by rw [h]

theorem ok_any (k o a n : Int) (w : World) : Calls Try.prog 60 #[.agg #[.int .i64 k, .int .i64 o, .int .i64 a], .int .i64 n] w fun e w' => e = .returned (.bool (okB k o a n)) ∧ Hid (w.grownBy w' none) := by
  by_cases h : k = 1 ∨ k = 2 ∨ k = 5
  · rcases h with rfl | rfl | rfl
    all_goals
      go_enter Try.func60, Try.ntmps60
      go_wp2
      all_goals go_ret
      all_goals exact ⟨ret_bool (by first | (simp [okB, *]; done) | (simp [okB, *]; omega) | (rw [Bool.eq_iff_iff]; simp [okB, *]; done) | (rw [Bool.eq_iff_iff]; simp [okB, *]; omega)), gb_alloc (gb_refl _ _) _⟩
  · by_cases h2 : k = 3 ∨ k = 4
    · rcases h2 with rfl | rfl
      all_goals
        go_enter Try.func60, Try.ntmps60
        go_wp2
        all_goals go_ret
        all_goals exact ⟨ret_bool (by first | (simp [okB, *]; done) | (simp [okB, *]; omega) | (rw [Bool.eq_iff_iff]; simp [okB, *]; done) | (rw [Bool.eq_iff_iff]; simp [okB, *]; omega)), gb_alloc (gb_refl _ _) _⟩
    · have h1 : (k == 1) = false := by simp; omega
      have h2' : (k == 2) = false := by simp; omega
      have h3 : (k == 3) = false := by simp; omega
      have h4 : (k == 4) = false := by simp; omega
      have h5 : (k == 5) = false := by simp; omega
      have H := Lib.hid (show okB k o a n = false by simp [okB, h2]; omega)
      clear h h2
      go_enter Try.func60, Try.ntmps60
      go_wp2
      all_goals go_ret
      all_goals exact ⟨ret_bool H.out.symm, gb_alloc (gb_refl _ _) _⟩

theorem refok_any (k o a n : Int) (w : World) : Calls Try.prog 49 #[.agg #[.int .i64 k, .int .i64 o, .int .i64 a], .int .i64 n] w fun e w' => e = .returned (.bool (okB k o a n)) ∧ Hid (w.grownBy w' none) := by
  by_cases h0 : k < 1 ∨ 5 < k
  · have H := Lib.hid (show okB k o a n = false by unfold okB; rw [if_neg (by omega)]; simp; omega)
    rcases h0 with h0 | h0
    all_goals
      go_enter Try.func49, Try.ntmps49
      go_wp2
      all_goals go_ret
      all_goals exact ⟨ret_bool H.out.symm, gb_alloc (gb_refl _ _) _⟩
  · have hk : k = 1 ∨ k = 2 ∨ k = 3 ∨ k = 4 ∨ k = 5 := by omega
    clear h0
    rcases hk with rfl | rfl | rfl | rfl | rfl
    all_goals
      go_enter Try.func49, Try.ntmps49
      go_wp2
      all_goals go_ret
      all_goals exact ⟨ret_bool (by first | (simp [okB, *]; done) | (simp [okB, *]; omega) | (rw [Bool.eq_iff_iff]; simp [okB, *]; done) | (rw [Bool.eq_iff_iff]; simp [okB, *]; omega)), gb_alloc (gb_refl _ _) _⟩
end Go.Proofs.Ytdohepenmejcaaa.lg
