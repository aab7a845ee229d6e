/- What the statements of layer 4 begin with: an arena, a table on it, cells; the document's example. -/
import Derived.Test.YtnaagcofgnmmlaaCells
namespace Go.Proofs.Ytnaagcofgnmmlaa.ce
open Go Go.RowKit Go.Proofs.Ytnaagcofgnmmlaa.base Go.Proofs.Ytnaagcofgnmmlaa.ar Go.Proofs.Ytnaagcofgnmmlaa.ds Go.Proofs.Ytnaagcofgnmmlaa.rf Go.Proofs.Ytnaagcofgnmmlaa.mm Go.Proofs.Ytnaagcofgnmmlaa.vl

section
variable {base : Nat} {w0 w w' : World} {cb tb ab m : Nat} {room : Int} {rs : List Rc} {hd : List Int} {is : Int → Bool} {num : Int → Nat → Int} {B : Int} {F F' : Nat → Prop}
theorem Cel.low (h : Cel base w cb tb ab room rs hd m is num B F) (s : Step F F' w w') {b : Nat} (k : Below b w0 w) (hb : b ≤ base) : Below b w0 w' :=
  s.low k (by have := h.base_size; omega) (fun i hi => by have := (h.foot i hi).1; omega)
end

/-- A table on an arena without records. -/
theorem mem_new (base ab : Nat) (room : Int) (w : World) (A : ArenaR base w ab room [] none) : Calls Try.prog 16 #[.pointer (some ⟨ab, 0, none⟩)] w fun e w' => ∃ tb F, e = .returned (.tuple #[.pointer (some ⟨tb, 0, none⟩), .int .i64 0]) ∧ Hid (Mem base w' tb ab room [] 0 (fun _ => false) (fun _ _ => 0) 0 F) ∧ Hid (w.grownBy w' none) := by
  refine (new_any base ab w (by have := A.base_le; have := A.lt; omega) (fun _ _ => 0) (fun _ _ => 0)).mono ?_
  rintro e w' ⟨tb, mb, rfl, T, g, _⟩
  exact ⟨tb, _, rfl, ⟨mb, none, _, A.grown g.out, T.out, rfl⟩, g⟩

theorem IsRow.lit (w : World) (x : Int) (hx : (Lit.int .i64 x).wf = true) (t : TypeId) : IsRow .i64 (w.alloc (.cells #[.int .i64 x] t)) (some ⟨w.heap.size, 0, none⟩) 1 1 (fun _ => x) := by
  refine ⟨Nat.le_refl _, by unfold maxLen; omega, .inr ⟨w.heap.size, 0, rfl, by simp, fun i hi => ?_⟩⟩
  obtain rfl : i = 0 := by omega
  exact ⟨by simp [go_sem], hx⟩

end Go.Proofs.Ytnaagcofgnmmlaa.ce
