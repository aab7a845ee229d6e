/- Plain facts on memory, of no program: a block of two cells that a call writes, and that nothing else turns; 'grownBy' handed on step by step. -/
import Derived.WalkKit
import Derived.ProofKit
import Derived.Handy
import Derived.Lib.Hide
import Derived.BigQuiet
import Derived.Deep.QuietTactic
namespace Go.Proofs.Ytdohepenmejcaaa.base
open Go Go.RowKit

/-- What grew by new blocks alone is as it was below them. -/
theorem gb_below {a w : World} (h : a.grownBy w none) : Below a.heap.size a w := ⟨h.os, h.tape, h.output, h.size, fun k hk => h.block k hk (by simp)⟩
theorem gb_refl (w : World) (r : Option Nat) : w.grownBy w r := ⟨rfl, rfl, rfl, Nat.le_refl _, fun _ _ _ => rfl⟩
theorem gb_trans {a b c : World} {r : Option Nat} (h : a.grownBy b r) (k : b.grownBy c r) : a.grownBy c r :=
  ⟨k.os.trans h.os, k.tape.trans h.tape, k.output.trans h.output, Nat.le_trans h.size k.size, fun i hi hn => (k.block i (Nat.lt_of_lt_of_le hi h.size) hn).trans (h.block i hi hn)⟩
theorem gb_drew {a w : World} {r : Option Nat} (h : a.grownBy w r) : a.grownBy w.drew r := ⟨h.os, h.tape, h.output, h.size, h.block⟩
theorem gb_drewN {a w : World} {r : Option Nat} (h : a.grownBy w r) (n : Nat) : a.grownBy (w.drewN n) r := ⟨h.os, h.tape, h.output, h.size, h.block⟩
theorem gb_alloc {a w : World} {r : Option Nat} (h : a.grownBy w r) (o : Obj) : a.grownBy (w.alloc o) r :=
  gb_trans h (World.grownBy_alloc w o r)
theorem gb_setCell {a w : World} {r : Option Nat} (h : a.grownBy w r) {p : Addr} (hp : some p.block = r) (u : Value) : a.grownBy (w.setCell p u) r :=
  gb_trans h ⟨rfl, rfl, rfl, by simp [World.setCell], fun k _ hn => Below.heap_setCell _ _ _ _ (fun e => hn (by rw [e]; exact hp))⟩
theorem gb_setB {a w : World} {b i : Nat} (h : a.grownBy w (some b)) (u : Value) : a.grownBy (w.setCell ⟨b, i, none⟩ u) (some b) := gb_setCell h rfl u
theorem gb_setNew {a w : World} {r : Option Nat} (h : a.grownBy w r) {p : Addr} (hp : a.heap.size ≤ p.block) (u : Value) : a.grownBy (w.setCell p u) r :=
  ⟨h.os, h.tape, h.output, by have := h.size; simpa [World.setCell] using this, fun k hk hn => (Below.heap_setCell _ _ _ _ (by omega)).trans (h.block k hk hn)⟩

/-- A cell elsewhere, that may be written, stays both. -/
theorem gb_cellF {w w' : World} {r : Option Nat} {p : Addr} {v : Value} (g : w.grownBy w' r) (hc : w.cell? p = some v) (hf : w.frozen? p = false) (hr : some p.block ≠ r) : w'.cell? p = some v ∧ w'.frozen? p = false := by
  have e := g.block p.block (World.block_lt_of_cell? w p hc) hr
  refine ⟨(World.cell?_of_block e).trans hc, ?_⟩
  unfold World.frozen? at hf ⊢
  rw [e]
  exact hf

/-- A step that writes a block that is new changes nothing that was there. -/
theorem gb_new {a b c : World} (h : a.grownBy b none) (k : b.grownBy c (some a.heap.size)) : a.grownBy c none :=
  ⟨k.os.trans h.os, k.tape.trans h.tape, k.output.trans h.output, Nat.le_trans h.size k.size, fun i hi hn => (k.block i (Nat.lt_of_lt_of_le hi h.size) (by simp; omega)).trans (h.block i hi hn)⟩

theorem gb_over {a b c : World} {i : Nat} (h : a.grownBy b none) (k : b.grownBy c (some i)) (hi : a.heap.size ≤ i) : a.grownBy c none :=
  ⟨k.os.trans h.os, k.tape.trans h.tape, k.output.trans h.output, Nat.le_trans h.size k.size, fun j hj hn => (k.block j (Nat.lt_of_lt_of_le hj h.size) (by simp; omega)).trans (h.block j hj hn)⟩

theorem gb_overO {a b c : World} {r : Option Nat} (h : a.grownBy b none) (k : b.grownBy c r) (hi : ∀ i, r = some i → a.heap.size ≤ i) : a.grownBy c none :=
  ⟨k.os.trans h.os, k.tape.trans h.tape, k.output.trans h.output, Nat.le_trans h.size k.size, fun j hj hn => (k.block j (Nat.lt_of_lt_of_le hj h.size) (fun e => by have := hi j e.symm; omega)).trans (h.block j hj hn)⟩

/-- Steps of a call: what was there when it began stays as it was. -/
theorem bl_own {a w w' : World} {b : Nat} (h : Below a.heap.size a w) (g : w.grownBy w' (some b)) (hb : a.heap.size ≤ b) : Below a.heap.size a w' :=
  h.grown g h.size (fun k hk => by cases hk; exact hb)
theorem bl_none {a w w' : World} (h : Below a.heap.size a w) (g : w.grownBy w' none) : Below a.heap.size a w' :=
  h.grown g h.size (fun k hk => by cases hk)

theorem bl_weak {B B' : Nat} {a w : World} (h : Below B a w) (hb : B' ≤ B) : Below B' a w := ⟨h.os, h.tape, h.output, h.size, fun k hk => h.block k (by omega)⟩

/-- Block b has two cells, both numbers of kind int, and may be written. -/
def Two (t : TypeId) (w : World) (b : Nat) (n a : Int) : Prop := w.heap[b]? = some (.cells #[.int .i64 n, .int .i64 a] t (0, 0))

section
variable {t : TypeId} {w w' : World} {b : Nat} {n a : Int}
theorem Two.lt (h : Two t w b n a) : b < w.heap.size := (Array.getElem?_eq_some_iff.1 h).1
theorem Two.c0 (h : Two t w b n a) : w.cell? ⟨b, 0, none⟩ = some (.int .i64 n) := by unfold Two at h; simp [World.cell?, h]
theorem Two.c1 (h : Two t w b n a) : w.cell? ⟨b, 1, none⟩ = some (.int .i64 a) := by unfold Two at h; simp [World.cell?, h]
theorem Two.f0 (h : Two t w b n a) : w.frozen? ⟨b, 0, none⟩ = false := by unfold Two at h; simp [World.frozen?, h]
theorem Two.f1 (h : Two t w b n a) : w.frozen? ⟨b, 1, none⟩ = false := by unfold Two at h; simp [World.frozen?, h]
theorem Two.set0 (h : Two t w b n a) (m : Int) : Two t (w.setCell ⟨b, 0, none⟩ (.int .i64 m)) b m a := by
  have hl := h.lt
  unfold Two at h ⊢
  have h' : w.heap[b] = .cells #[.int .i64 n, .int .i64 a] t (0, 0) := by simpa [Array.getElem?_eq_getElem hl] using h
  show (w.heap.modify b _)[b]? = _
  rw [Array.getElem?_eq_getElem (by simpa using hl), Array.getElem_modify_self, h']
  rfl
theorem Two.set1 (h : Two t w b n a) (m : Int) : Two t (w.setCell ⟨b, 1, none⟩ (.int .i64 m)) b n m := by
  have hl := h.lt
  unfold Two at h ⊢
  have h' : w.heap[b] = .cells #[.int .i64 n, .int .i64 a] t (0, 0) := by simpa [Array.getElem?_eq_getElem hl] using h
  show (w.heap.modify b _)[b]? = _
  rw [Array.getElem?_eq_getElem (by simpa using hl), Array.getElem_modify_self, h']
  rfl
theorem Two.alloc (h : Two t w b n a) (o : Obj) : Two t (w.alloc o) b n a := (Below.heap_alloc w o b h.lt).trans h
theorem Two.setOther (h : Two t w b n a) {p : Addr} (hp : b ≠ p.block) (u : Value) : Two t (w.setCell p u) b n a := (Below.heap_setCell w p u b hp).trans h
theorem Two.drew (h : Two t w b n a) : Two t w.drew b n a := h
theorem Two.drewN (h : Two t w b n a) (k : Nat) : Two t (w.drewN k) b n a := h
theorem Two.grown (h : Two t w b n a) {r : Option Nat} (hg : w.grownBy w' r) (hr : some b ≠ r) : Two t w' b n a := (hg.block b h.lt hr).trans h
theorem Two.below (h : Two t w b n a) {B : Nat} (hg : Below B w w') (hr : b < B) : Two t w' b n a := (hg.block b hr).trans h
theorem Two.made (w : World) (t : TypeId) (n a : Int) : Two t (w.alloc (.cells #[.int .i64 n, .int .i64 a] t)) w.heap.size n a := heap_alloc_new w _
end
/-- Only blocks of S, and new ones, were written. -/
structure Only (S : Nat → Prop) (w w' : World) : Prop where
  os : w'.os = w.os
  tape : w'.tape = w.tape
  output : w'.output = w.output
  size : w.heap.size ≤ w'.heap.size
  block : ∀ k, k < w.heap.size → ¬ S k → w'.heap[k]? = w.heap[k]?

section
variable {S S' : Nat → Prop} {w w' w'' : World}
theorem Only.refl (S : Nat → Prop) (w : World) : Only S w w := ⟨rfl, rfl, rfl, Nat.le_refl _, fun _ _ _ => rfl⟩
theorem Only.trans (h : Only S w w') (k : Only S w' w'') : Only S w w'' :=
  ⟨k.os.trans h.os, k.tape.trans h.tape, k.output.trans h.output, Nat.le_trans h.size k.size, fun i hi hn => (k.block i (Nat.lt_of_lt_of_le hi h.size) hn).trans (h.block i hi hn)⟩
theorem Only.mono (h : Only S w w') (hs : ∀ k, k < w.heap.size → S k → S' k) : Only S' w w' := ⟨h.os, h.tape, h.output, h.size, fun i hi hn => h.block i hi (fun e => hn (hs i hi e))⟩
theorem Only.of {r : Option Nat} (h : w.grownBy w' r) (hs : ∀ k, r = some k → k < w.heap.size → S k) : Only S w w' := ⟨h.os, h.tape, h.output, h.size, fun i hi hn => h.block i hi (fun e => hn (hs i e.symm hi))⟩
theorem Only.none (h : w.grownBy w' none) : Only S w w' := Only.of h (fun _ e => by cases e)
theorem Only.below {B : Nat} {w0 : World} (h : Only S w w') (k : Below B w0 w) (hb : B ≤ w.heap.size) (hs : ∀ i, S i → B ≤ i) : Below B w0 w' :=
  k.trans ⟨h.os, h.tape, h.output, h.size, fun i hi => h.block i (by omega) (fun e => by have := hs i e; omega)⟩
theorem Two.only {t : TypeId} {b : Nat} {n a : Int} (h : Two t w b n a) (g : Only S w w') (hb : ¬ S b) : Two t w' b n a := (g.block b h.lt hb).trans h
end

/-- What lies in the blocks of F was changed, and new blocks were made; what is now in those of F'. -/
structure Step (F F' : Nat → Prop) (w w' : World) : Prop where
  only : Only F w w'
  foot : ∀ k, F' k → F k ∨ w.heap.size ≤ k

section
variable {F F' F'' G : Nat → Prop} {w w' w'' : World}
theorem Step.refl (F : Nat → Prop) (w : World) : Step F F w w := ⟨Only.refl _ _, fun _ h => .inl h⟩
theorem Step.none (h : w.grownBy w' none) : Step F F w w' := ⟨Only.none h, fun _ h => .inl h⟩
theorem Step.trans (h : Step F F' w w') (k : Step F' F'' w' w'') : Step F F'' w w'' := by
  refine ⟨⟨k.only.os.trans h.only.os, k.only.tape.trans h.only.tape, k.only.output.trans h.only.output, Nat.le_trans h.only.size k.only.size, fun i hi hn => ?_⟩, fun i hi => ?_⟩
  · have h1 := h.only.block i hi hn
    have h2 := k.only.block i (Nat.lt_of_lt_of_le hi h.only.size) (fun e => by
      rcases h.foot i e with h3 | h3
      · exact hn h3
      · omega)
    exact h2.trans h1
  · have := h.only.size
    rcases k.foot i hi with h1 | h1
    · rcases h.foot i h1 with h2 | h2
      · exact .inl h2
      · exact .inr h2
    · exact .inr (by omega)
theorem Step.of {r : Option Nat} (h : w.grownBy w' r) (hr : ∀ k, r = some k → F k) : Step F F w w' := ⟨Only.of h (fun k e _ => hr k e), fun _ h => .inl h⟩
theorem Step.low {B : Nat} {w0 : World} (h : Step F F' w w') (k : Below B w0 w) (hb : B ≤ w.heap.size) (hs : ∀ i, F i → B ≤ i) : Below B w0 w' := h.only.below k hb hs

/-- Two that have no block in common. -/
def Sep (F G : Nat → Prop) : Prop := ∀ k, F k → ¬ G k
theorem Sep.symm (h : Sep F G) : Sep G F := fun k hg hf => h k hf hg
theorem Sep.step (h : Sep F G) (s : Step F F' w w') (hg : ∀ k, G k → k < w.heap.size) : Sep F' G := fun k hf' hg' => by
  rcases s.foot k hf' with hf | hl
  · exact h k hf hg'
  · have := hg k hg'; omega
theorem Sep.new (hf : ∀ k, F k → w.heap.size ≤ k) (hg : ∀ k, G k → k < w.heap.size) : Sep F G := fun k h1 h2 => by have := hf k h1; have := hg k h2; omega
end
end Go.Proofs.Ytdohepenmejcaaa.base
