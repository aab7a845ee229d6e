/- The contracts of package desc that make and tell: New, Begin, Rec, Count. -/
import Derived.Test.YtnaagcofgnmmlaaDesc
import Derived.Deep.RegionHeld3
namespace Go.Proofs.Ytnaagcofgnmmlaa.ds
open Go Go.RowKit Go.Proofs.Ytnaagcofgnmmlaa.base Go.Proofs.Ytnaagcofgnmmlaa.ar Go.Proofs.Ytnaagcofgnmmlaa.wd

theorem new_nil (w : World) : Calls Try.prog 16 #[.pointer none] w fun e w' => e = .returned (.tuple #[.pointer none, .int .i64 6]) ∧ w = w' := by
  go_enter Try.func16, Try.ntmps16
  go_wp2
  go_ret2
  exact ⟨rfl, rfl⟩

theorem new_any (base ab : Nat) (w : World) (hb : base ≤ w.heap.size) (blk : Int → Nat → Nat) (num : Int → Nat → Int) :
    Calls Try.prog 16 #[.pointer (some ⟨ab, 0, none⟩)] w fun e w' => ∃ tb mb, e = .returned (.tuple #[.pointer (some ⟨tb, 0, none⟩), .int .i64 0]) ∧ Hid (Tab base w' tb mb ab 0 (fun _ => false) blk num 0) ∧ Hid (w.grownBy w' none) ∧ Hid (w.heap.size ≤ tb ∧ w.heap.size ≤ mb) := by
  have hmm := @run_makeMap Try.prog
  have hb' := Lib.hid hb
  clear hb
  go_enter Try.func16, Try.ntmps16
  go_wp2
  go_ret2
  refine ⟨w.heap.size + 1, w.heap.size, rfl, ⟨by have := hb'.out; omega, hb'.out, ?_, ?_, by simp, by simp⟩, (by repeat first | exact gb_refl _ _ | refine gb_alloc ?_ _), by omega, Nat.le_refl _⟩
  · have := Blk.made (w.alloc (.map #[] 0)) 89 #[.pointer (some ⟨ab, 0, none⟩), .map (some w.heap.size)]
    simpa using this
  · have := MapF.made w Try.prog 3
    refine MapF.keep ?_ (Below.heap_alloc _ _ _ (by simp))
    simpa using this

/-- One descriptor more. -/
def more {α : Type} (f : Int → α) (j : Int) (v : α) : Int → α := fun i => if i = j then v else f i

theorem Tab.add {base : Nat} {u F : World} {tb mb ab m : Nat} {is : Int → Bool} {blk : Int → Nat → Nat} {num : Int → Nat → Int} {B : Int} (h : Tab base u tb mb ab m is blk num B) (j : Int) (hj : is j = false) (f : Nat → Nat) (p : Nat → Int) (hB : 0 ≤ B)
    (hf : ∀ c, c < 3 → base ≤ f c ∧ Word u (f c) (p c) 0) (hd : ∀ c c', c < 3 → c' < 3 → f c = f c' → c = c') (hn : ∀ i c c', is i = true → c < 3 → c' < 3 → blk i c ≠ f c')
    (MF : MapF Try.prog 3 F mb (m + 1) (fun i => if i = j then some (dval f) else if is i then some (dval (blk i)) else none)) (gF : u.grownBy F (some mb)) :
    Tab base F tb mb ab (m + 1) (more is j true) (more blk j f) (more num j p) B := by
  have hmb : ∀ c, c < 3 → f c ≠ mb := fun c hc e => by
    have hw := (hf c hc).2
    unfold Word Two at hw
    rw [e] at hw
    exact h.map.not_cells hw
  refine ⟨h.tb_le, h.mb_le, h.tab.grown gF (by have := h.tb_mb; simpa using this), ?_, fun i c hi hc => ?_, fun i c i' c' hi hi' hc hc' e => ?_⟩
  · have e : (fun i => if i = j then some (dval f) else if is i then some (dval (blk i)) else none) = (fun i => if more is j true i then some (dval (more blk j f i)) else none) := by
      funext i
      unfold more
      by_cases e : i = j <;> simp [e]
    rw [← e]
    exact MF
  · by_cases e : i = j
    · subst e
      refine ⟨by simpa [more] using (hf c hc).1, 0, by omega, hB, ?_⟩
      have := (hf c hc).2.grown gF (by simpa using hmb c hc)
      simpa [more] using this
    · have hi' : is i = true := by simpa [more, e] using hi
      obtain ⟨hb, a, l, u', hw⟩ := h.word i c hi' hc
      refine ⟨by simpa [more, e] using hb, a, l, u', ?_⟩
      have := hw.grown gF (by have := h.mb_ne hi' hc; simpa using this.symm)
      simpa [more, e] using this
  · by_cases e1 : i = j <;> by_cases e2 : i' = j
    · subst e1
      subst e2
      exact ⟨rfl, hd c c' hc hc' (by simpa [more] using e)⟩
    · subst e1
      have hi2 : is i' = true := by simpa [more, e2] using hi'
      exact absurd (by simpa [more, e2] using e.symm) (hn i' c' c hi2 hc' hc)
    · subst e2
      have hi2 : is i = true := by simpa [more, e1] using hi
      exact absurd (by simpa [more, e1] using e) (hn i c c' hi2 hc hc')
    · exact h.apart i c i' c' (by simpa [more, e1] using hi) (by simpa [more, e2] using hi') hc hc' (by simpa [more, e1, e2] using e)

/-- The least of five numbers. -/
theorem min5 (ts : Array TypeId) (t : TypeId) (a b c d e : Int) : ∃ M : Int, (∀ w, (Builtin.min_ ts t #[.int .i64 a, .int .i64 b, .int .i64 c, .int .i64 d, .int .i64 e]).run Try.prog w = .ok (.int .i64 M) w) ∧ (0 ≤ M ↔ 0 ≤ a ∧ 0 ≤ b ∧ 0 ≤ c ∧ 0 ≤ d ∧ 0 ≤ e) := by
  refine ⟨min (min (min (min a b) c) d) e, fun w => ?_, by omega⟩
  have h : ∀ x y : Int, (if y < x then y else x) = min x y := fun x y => by split <;> omega
  simp [Builtin.min_, Builtin.min2, h]

end Go.Proofs.Ytnaagcofgnmmlaa.ds
