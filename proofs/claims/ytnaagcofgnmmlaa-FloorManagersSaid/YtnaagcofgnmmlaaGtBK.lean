/- The contracts of package gate over a gate as one thing, further: the sight, the swap, the leave, and a new gate. -/
import Derived.Test.YtnaagcofgnmmlaaGtK
import Derived.Deep.RegionHeld3
namespace Go.Proofs.Ytnaagcofgnmmlaa.gate
open Go Go.RowKit Go.Proofs.Ytnaagcofgnmmlaa.base Go.Proofs.Ytnaagcofgnmmlaa.ch Go.Proofs.Ytnaagcofgnmmlaa.wd
set_option linter.unusedVariables false

section
variable {w0 : Bas} {g n : Nat} {b : Bool} {s t : Int} {z : Nat → Int} {A : Int} {R : List (Nat × TypeId × List Value)}

theorem Gt.num {w : World} (h : Gt w0 w g n b s t z A R) : ∃ num, Num n b s t num ∧ n ≤ 6 := by
  obtain ⟨sw, pb, num, a, h1, h2, h3, h4, o⟩ := h
  exact ⟨num, h2, h1⟩

theorem num_miss {xb : Bool} {xs xt old num : Int} (hx : Num n xb xs xt old) (h : Num n b s t num) (hne : ¬ (xb = b ∧ xs = s ∧ xt = t)) (h6 : n ≤ 6) : (num == old) = false := by
  rw [beq_eq_false_iff_ne]
  intro e
  apply hne
  rcases hx with ⟨rfl, rfl, rfl, rfl⟩ | ⟨rfl, h1, h2, h3, h4, h5⟩ <;> rcases h with ⟨rfl, rfl, rfl, rfl⟩ | ⟨rfl, k1, k2, k3, k4, k5⟩
  · exact ⟨rfl, rfl, rfl⟩
  · omega
  · omega
  · exact ⟨rfl, by omega, by omega⟩

theorem num_hit {num m : Int} (h : Num n b s t num) (k : Num n b s t m) : num = m := by
  rcases h with ⟨rfl, rfl, rfl, rfl⟩ | ⟨rfl, h1, h2, h3, h4, h5⟩ <;> rcases k with ⟨k0, k1, k2, k3⟩ | ⟨k0, k1, k2, k3, k4, k5⟩
  · exact k3.symm
  · cases k0
  · cases k0
  · omega

end

end Go.Proofs.Ytnaagcofgnmmlaa.gate
