/- Two slices of the same numbers are told to be alike (quarrelref01.Vals). -/
import Derived.Test.YtnaagcofgnmmlaaProg
import Derived.Test.YtnaagcofgnmmlaaOpen
import Derived.Test.YtnaagcofgnmmlaaGrow
import Derived.BigQuiet
import Derived.Deep.QuietTactic
namespace Go.Proofs.Ytnaagcofgnmmlaa.vl
open Go Go.RowKit Go.Proofs.Ytnaagcofgnmmlaa.base

theorem drewN_drewN (w : World) (n m : Nat) : (w.drewN n).drewN m = w.drewN (n + m) := by
  simp [World.drewN, Nat.add_assoc]

/-- A slice at a holds the numbers of l. -/
def Rd (w : World) (a : Option Addr) (l : List Int) : Prop := l = [] ∨ ∃ b off, a = some ⟨b, off, none⟩ ∧ ∀ i x, l[i]? = some x → w.cell? ⟨b, off + i, none⟩ = some (.int .i64 x)

theorem Rd.grown {w w' : World} {a : Option Addr} {l : List Int} (h : Rd w a l) {r : Option Nat} (g : w.grownBy w' r) (hr : ∀ b off, a = some ⟨b, off, none⟩ → some b ≠ r) : Rd w' a l := by
  rcases h with h | ⟨b, off, rfl, h⟩
  · exact .inl h
  · exact .inr ⟨b, off, rfl, fun i x hx => g.cell (h i x hx) (hr b off rfl)⟩
theorem Rd.only {w w' : World} {a : Option Addr} {l : List Int} {S : Nat → Prop} (h : Rd w a l) (g : Only S w w') (hr : ∀ b off, a = some ⟨b, off, none⟩ → ¬ S b) : Rd w' a l := by
  rcases h with h | ⟨b, off, rfl, h⟩
  · exact .inl h
  · exact .inr ⟨b, off, rfl, fun i x hx => (World.cell?_of_block (g.block b (World.block_lt_of_cell? _ _ (h i x hx)) (hr b off rfl))).trans (h i x hx)⟩
theorem Rd.drewN {w : World} {a : Option Addr} {l : List Int} (h : Rd w a l) (n : Nat) : Rd (w.drewN n) a l := h
theorem Rd.below {w w' : World} {a : Option Addr} {l : List Int} {B : Nat} (h : Rd w a l) (g : Below B w w') (hr : ∀ b off, a = some ⟨b, off, none⟩ → b < B) : Rd w' a l := by
  rcases h with h | ⟨b, off, rfl, h⟩
  · exact .inl h
  · exact .inr ⟨b, off, rfl, fun i x hx => (g.cell (p := ⟨b, off + i, none⟩) (hr b off rfl)).trans (h i x hx)⟩
/-- An argument's. -/
theorem Rd.of_row {w : World} {a : Option Addr} {len cap : Nat} {z : Nat → Int} (h : IsRow .i64 w a len cap z) : Rd w a ((List.range len).map z) := by
  obtain ⟨_, _, rfl | ⟨b, off, rfl, _, h⟩⟩ := h
  · exact .inl rfl
  · refine .inr ⟨b, off, rfl, fun i x hx => ?_⟩
    have hi : i < len := by
      have := (List.getElem?_eq_some_iff.1 hx).1
      simpa using this
    have : z i = x := by simpa [hi] using hx
    rw [← this]
    exact (h i hi).1
/-- What a call has made. -/
theorem Rd.of_own {w : World} {base : Nat} {e : TypeId} {a : Option Addr} {cap : Nat} {l : List Int} (h : w.ownsRow base e 1 (.slice a l.length cap) l.length (l.map fun x => .int .i64 x)) : Rd w a l := by
  rcases h.2 with ⟨e, h0⟩ | ⟨g, cap2, cur, e, _⟩
  · exact .inl (List.eq_nil_of_length_eq_zero h0)
  · injection e with e1 e2 e3
    subst e1
    refine .inr ⟨g, 0, rfl, fun i x hx => ?_⟩
    have hi : i < l.length := (List.getElem?_eq_some_iff.1 hx).1
    have h1 := h.cellAt i (by omega)
    rw [show 0 + i = i by omega]
    rw [h1]
    simp [hx]

end Go.Proofs.Ytnaagcofgnmmlaa.vl
