/- A gate as one thing: its three blocks (the struct, its word, its pulses) in front of one's own others; its contracts over that. -/
import Derived.Test.YtnaagcofgnmmlaaGateK
import Derived.Test.YtnaagcofgnmmlaaOwnK
namespace Go.Proofs.Ytnaagcofgnmmlaa.gate
open Go Go.RowKit Go.Proofs.Ytnaagcofgnmmlaa.base Go.Proofs.Ytnaagcofgnmmlaa.ch Go.Proofs.Ytnaagcofgnmmlaa.wd
set_option linter.unusedVariables false

/-- The number that the word has: there is no senior (b is false), or it is the stamp s and the thread t. -/
def Num (n : Nat) (b : Bool) (s t num : Int) : Prop := (b = false ∧ s = 0 ∧ t = 0 ∧ num = 0) ∨ (b = true ∧ 0 ≤ s ∧ s ≤ 1099511627776 ∧ 0 ≤ t ∧ t < n ∧ num = s * 6 + t + 1)

/-- w came of w0 by new blocks alone: g is a gate of n threads with pulses z; its senior is b, s, t; its word was accessed A times at most; the blocks of R are one's own, too. -/
def Gt (w0 : Bas) (w : World) (g n : Nat) (b : Bool) (s t : Int) (z : Nat → Int) (A : Int) (R : List (Nat × TypeId × List Value)) : Prop :=
  ∃ (sw pb : Nat) (num a : Int), n ≤ 6 ∧ Num n b s t num ∧ 0 ≤ a ∧ a ≤ A ∧ Own w0 w ((g, 102, [.pointer (some ⟨sw, 0, none⟩), .int .i64 0, .slice (some ⟨pb, 0, none⟩) n n]) :: (sw, 117, [.int .i64 num, .int .i64 a]) :: (pb, 3, vals z n) :: R)

section
variable {w0 : Bas} {w w' : World} {g n : Nat} {b : Bool} {s t : Int} {z : Nat → Int} {A : Int} {R : List (Nat × TypeId × List Value)}
theorem Gt.own (h : Gt w0 w g n b s t z A R) : Own w0 w R := by
  obtain ⟨sw, pb, num, a, _, _, _, _, o⟩ := h
  exact o.drop (List.Sublist.cons _ (List.Sublist.cons _ (List.Sublist.cons _ (List.Sublist.refl _))))
theorem Gt.grown (h : Gt w0 w g n b s t z A R) (k : w.grownBy w' none) : Gt w0 w' g n b s t z A R := by
  obtain ⟨sw, pb, num, a, h1, h2, h3, h4, o⟩ := h
  exact ⟨sw, pb, num, a, h1, h2, h3, h4, o.grown k⟩
theorem Gt.drew (h : Gt w0 w g n b s t z A R) : Gt w0 w.drew g n b s t z A R := by
  obtain ⟨sw, pb, num, a, h1, h2, h3, h4, o⟩ := h
  exact ⟨sw, pb, num, a, h1, h2, h3, h4, o.drew⟩
theorem Gt.drewN (h : Gt w0 w g n b s t z A R) (k : Nat) : Gt w0 (w.drewN k) g n b s t z A R := by
  obtain ⟨sw, pb, num, a, h1, h2, h3, h4, o⟩ := h
  exact ⟨sw, pb, num, a, h1, h2, h3, h4, o.drewN k⟩
theorem Gt.skip (h : Gt w0 w g n b s t z A R) (o : Obj) : Gt w0 (w.alloc o) g n b s t z A R := h.grown (World.grownBy_alloc w o none)
theorem Gt.le (h : Gt w0 w g n b s t z A R) {B : Int} (hb : A ≤ B) : Gt w0 w g n b s t z B R := by
  obtain ⟨sw, pb, num, a, h1, h2, h3, h4, o⟩ := h
  exact ⟨sw, pb, num, a, h1, h2, h3, by omega, o⟩
theorem Gt.alloc (h : Gt w0 w g n b s t z A R) (ty : TypeId) (cs : List Value) : Gt w0 (w.alloc (.cells ⟨cs⟩ ty)) g n b s t z A ((w.heap.size, ty, cs) :: R) := by
  obtain ⟨sw, pb, num, a, h1, h2, h3, h4, o⟩ := h
  refine ⟨sw, pb, num, a, h1, h2, h3, h4, (o.alloc ty cs).perm ?_⟩
  exact (List.Perm.swap _ _ _).trans (List.Perm.cons _ ((List.Perm.swap _ _ _).trans (List.Perm.cons _ (List.Perm.swap _ _ _))))
theorem Gt.change (h : Gt w0 w g n b s t z A R) (k : Nat) {c : Nat} {ty : TypeId} {cs ds : List Value} (hk : R[k]? = some (c, ty, cs)) (hg : w.grownBy w' (some c)) (hb : Blk ty w' c ⟨ds⟩) : Gt w0 w' g n b s t z A (R.set k (c, ty, ds)) := by
  obtain ⟨sw, pb, num, a, h1, h2, h3, h4, o⟩ := h
  exact ⟨sw, pb, num, a, h1, h2, h3, h4, o.change (k + 3) hk hg hb⟩
theorem Gt.set (h : Gt w0 w g n b s t z A R) (k j : Nat) (u : Value) {c : Nat} {ty : TypeId} {cs : List Value} (hk : R[k]? = some (c, ty, cs)) : Gt w0 (w.setCell ⟨c, j, none⟩ u) g n b s t z A (R.set k (c, ty, cs.set j u)) := by
  obtain ⟨sw, pb, num, a, h1, h2, h3, h4, o⟩ := h
  exact ⟨sw, pb, num, a, h1, h2, h3, h4, o.set (k + 3) j u hk⟩
theorem Gt.drop (h : Gt w0 w g n b s t z A R) {M : List (Nat × TypeId × List Value)} (hs : List.Sublist M R) : Gt w0 w g n b s t z A M := by
  obtain ⟨sw, pb, num, a, h1, h2, h3, h4, o⟩ := h
  exact ⟨sw, pb, num, a, h1, h2, h3, h4, o.drop (List.Sublist.cons_cons _ (List.Sublist.cons_cons _ (List.Sublist.cons_cons _ hs)))⟩
theorem Gt.perm (h : Gt w0 w g n b s t z A R) {M : List (Nat × TypeId × List Value)} (hp : List.Perm R M) : Gt w0 w g n b s t z A M := by
  obtain ⟨sw, pb, num, a, h1, h2, h3, h4, o⟩ := h
  exact ⟨sw, pb, num, a, h1, h2, h3, h4, o.perm (List.Perm.cons _ (List.Perm.cons _ (List.Perm.cons _ hp)))⟩
theorem Gt.below (h : Gt w0 w g n b s t z A R) : Below w0.heap.size w0.wd w := h.own.below
theorem Gt.grow (h : Gt w0 w g n b s t z A R) : w0.grownBy w none := h.own.grow
theorem Gt.old (h : Gt w0 w g n b s t z A R) {p : Addr} {v : Value} (hc : w0.wd.cell? p = some v) : w.cell? p = some v := h.own.old hc
theorem Gt.get (h : Gt w0 w g n b s t z A R) (k : Nat) {c : Nat} {ty : TypeId} {cs : List Value} (hk : R[k]? = some (c, ty, cs)) : Blk ty w c ⟨cs⟩ := h.own.get k hk
theorem Gt.lt (h : Gt w0 w g n b s t z A R) (k : Nat) {c : Nat} {ty : TypeId} {cs : List Value} (hk : R[k]? = some (c, ty, cs)) : c < w.heap.size := h.own.lt k hk
theorem Gt.cell (h : Gt w0 w g n b s t z A R) (k j : Nat) {c : Nat} {ty : TypeId} {cs : List Value} {v : Value} (hk : R[k]? = some (c, ty, cs)) (hv : cs[j]? = some v) : w.cell? ⟨c, j, none⟩ = some v := h.own.cell k j hk hv
theorem Gt.free (h : Gt w0 w g n b s t z A R) (k j : Nat) {c : Nat} {ty : TypeId} {cs : List Value} (hk : R[k]? = some (c, ty, cs)) : w.frozen? ⟨c, j, none⟩ = false := h.own.free k j hk
theorem Gt.ne' (h : Gt w0 w g n b s t z A R) (i k : Nat) {c d : Nat} {ty u : TypeId} {cs ds : List Value} (hi : R[i]? = some (c, ty, cs)) (hk : R[k]? = some (d, u, ds)) (hik : i ≠ k) : c ≠ d ∧ d ≠ c := h.own.ne' i k hi hk hik
theorem Gt.size (h : Gt w0 w g n b s t z A R) : w0.heap.size ≤ w.heap.size := h.own.size
theorem Gt.six (h : Gt w0 w g n b s t z A R) : n ≤ 6 := by
  obtain ⟨sw, pb, num, a, h1, h2, h3, h4, o⟩ := h
  exact h1
end

/-- What make lays. -/
theorem made_vals (n : Nat) : madeCells #[.int .i64 0] n = ⟨vals (fun _ => 0) n⟩ := by
  apply Array.ext'
  apply List.ext_getElem?
  intro j
  by_cases h : j < n
  · rw [vals_get _ _ _ h]
    simp [madeCells, h, Nat.mod_one]
  · rw [List.getElem?_eq_none (by simp [madeCells]; omega), List.getElem?_eq_none (by simp [vals]; omega)]

theorem vals_set (z : Nat → Int) (n k : Nat) (x : Int) : (vals z n).set k (.int .i64 x) = vals (fun j => if j = k then x else z j) n := by
  apply List.ext_getElem?
  intro j
  by_cases hj : j < n
  · rw [vals_get _ _ _ hj]
    by_cases e : j = k
    · subst e
      rw [List.getElem?_set_self (by simpa [vals] using hj), if_pos rfl]
    · rw [List.getElem?_set_ne (fun h => e h.symm), vals_get _ _ _ hj, if_neg e]
  · rw [List.getElem?_eq_none (by simp [vals]; omega), List.getElem?_eq_none (by simp [vals]; omega)]

section
variable {w0 : Bas} {g n : Nat} {b : Bool} {s t : Int} {z : Nat → Int} {A : Int} {R : List (Nat × TypeId × List Value)}

end

end Go.Proofs.Ytnaagcofgnmmlaa.gate
