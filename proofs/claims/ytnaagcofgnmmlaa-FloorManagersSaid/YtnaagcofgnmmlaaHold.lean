/- A thing that lies in the blocks of a footprint, beside one's own blocks by their cells: both stand side by side, what is done to the one leaves the other. Of no program. -/
import Derived.Test.YtnaagcofgnmmlaaOwnK
import Derived.Test.YtnaagcofgnmmlaaRdMK
namespace Go.Proofs.Ytnaagcofgnmmlaa.base
open Go Go.RowKit
open Classical in
/-- What is in the blocks of F now. -/
noncomputable def keptOf (F : Nat → Prop) (w : World) : Nat → Option Obj := fun k => if F k then w.heap[k]? else none

/-- P holds of w and F, whose blocks are new since w0; and one's own blocks are those of L, none of F. -/
def Hold (P : World → (Nat → Prop) → Prop) (w0 w : World) (L : Blks) : Prop := ∃ F, P w F ∧ (∀ k, F k → w0.heap.size ≤ k ∧ k < w.heap.size) ∧ Own ⟨w0, keptOf F w⟩ w L

/-- P asks nothing beside its footprint. -/
def Firm (P : World → (Nat → Prop) → Prop) : Prop := ∀ w w' F, P w F → (∀ k, F k → w'.heap[k]? = w.heap[k]?) → P w' F

theorem kept_in {F : Nat → Prop} {w : World} {k : Nat} {o : Obj} (h : keptOf F w k = some o) : F k ∧ w.heap[k]? = some o := by
  unfold keptOf at h
  by_cases hf : F k
  · rw [if_pos hf] at h
    exact ⟨hf, h⟩
  · rw [if_neg hf] at h
    cases h
theorem kept_of {F : Nat → Prop} {w : World} {k : Nat} (hf : F k) (hk : k < w.heap.size) : ∃ o, keptOf F w k = some o := by
  unfold keptOf
  rw [if_pos hf]
  exact ⟨_, Array.getElem?_eq_getElem hk⟩

section
variable {P P' : World → (Nat → Prop) → Prop} {w0 w w' : World} {L L' M : Blks}
/-- What is done to one's own blocks. -/
theorem Hold.call (h : Hold P w0 w L) (hP : Firm P) : ∃ b : Bas, b.wd = w0 ∧ Own b w L ∧ ∀ w' L', Own b w' L' → Hold P w0 w' L' := by
  obtain ⟨F, p, hf, o⟩ := h
  refine ⟨⟨w0, keptOf F w⟩, rfl, o, fun w' L' o' => ?_⟩
  have hk : ∀ k, F k → w'.heap[k]? = w.heap[k]? := fun k hk => by
    obtain ⟨ob, e⟩ := kept_of hk (hf k hk).2
    rw [(o'.kept k ob e).1, (kept_in e).2]
  refine ⟨F, hP w w' F p hk, fun k h1 => ⟨(hf k h1).1, ?_⟩, ?_⟩
  · have := hk k h1
    have h2 := (hf k h1).2
    rw [Array.getElem?_eq_getElem h2] at this
    exact (Array.getElem?_eq_some_iff.1 this).1
  · have : keptOf F w' = keptOf F w := by
      funext k
      unfold keptOf
      by_cases h1 : F k
      · rw [if_pos h1, if_pos h1, hk k h1]
      · rw [if_neg h1, if_neg h1]
    rw [this]
    exact o'
theorem Hold.via (h : Hold P w0 w L) (hP : Firm P) (f : ∀ b : Bas, Own b w L → Own b w' L') : Hold P w0 w' L' := by
  obtain ⟨b, _, o, back⟩ := h.call hP
  exact back _ _ (f b o)
/-- What is done to the thing. -/
theorem Hold.step {F F' : Nat → Prop} (o : Own ⟨w0, keptOf F w⟩ w L) (hf : ∀ k, F k → w0.heap.size ≤ k ∧ k < w.heap.size) (p : P' w' F') (hf' : ∀ k, F' k → w0.heap.size ≤ k ∧ k < w'.heap.size) (s : Step F F' w w') : Hold P' w0 w' L := by
  have on := s.only
  have g := o.grow
  have hno : ∀ e ∈ L, ¬ F e.1 := fun e he hF => by
    obtain ⟨ob, e1⟩ := kept_of hF (hf _ hF).2
    exact o.off _ ob e1 e he rfl
  refine ⟨F', p, hf', ⟨⟨on.os.trans g.os, on.tape.trans g.tape, on.output.trans g.output, Nat.le_trans g.size on.size, fun k hk _ => (on.block k (Nat.lt_of_lt_of_le hk g.size) (fun e => by have := (hf k e).1; simp at hk; omega)).trans (g.block k hk (by simp))⟩, fun e he => ⟨(o.blk e he).1, (o.blk e he).2.keep (on.block _ (o.blk e he).2.lt (hno e he))⟩, o.down, fun k ob hk => ?_, fun k ob hk e he e1 => ?_⟩⟩
  · obtain ⟨h1, h2⟩ := kept_in hk
    exact ⟨h2, (hf' k h1).1⟩
  · obtain ⟨h1, _⟩ := kept_in hk
    rcases s.foot k h1 with h2 | h2
    · exact hno e he (e1 ▸ h2)
    · have := (o.blk e he).2.lt
      omega
theorem Hold.own (h : Hold P w0 w L) : ∃ b : Bas, b.wd = w0 ∧ Own b w L := by
  obtain ⟨F, _, _, o⟩ := h
  exact ⟨_, rfl, o⟩
theorem Hold.grown (h : Hold P w0 w L) (hP : Firm P) (g : w.grownBy w' none) : Hold P w0 w' L := h.via hP fun _ o => o.grown g
theorem Hold.drew (h : Hold P w0 w L) (hP : Firm P) : Hold P w0 w.drew L := h.via hP fun _ o => o.drew
theorem Hold.drewN (h : Hold P w0 w L) (hP : Firm P) (n : Nat) : Hold P w0 (w.drewN n) L := h.via hP fun _ o => o.drewN n
theorem Hold.skip (h : Hold P w0 w L) (hP : Firm P) (o : Obj) : Hold P w0 (w.alloc o) L := h.via hP fun _ q => q.skip o
theorem Hold.alloc (h : Hold P w0 w L) (hP : Firm P) (t : TypeId) (cs : List Value) : Hold P w0 (w.alloc (.cells ⟨cs⟩ t)) ((w.heap.size, t, cs) :: L) := h.via hP fun _ o => o.alloc t cs
theorem Hold.set (h : Hold P w0 w L) (hP : Firm P) (k j : Nat) (u : Value) {c : Nat} {t : TypeId} {cs : List Value} (hk : L[k]? = some (c, t, cs)) : Hold P w0 (w.setCell ⟨c, j, none⟩ u) (L.set k (c, t, cs.set j u)) := h.via hP fun _ o => o.set k j u hk
theorem Hold.change (h : Hold P w0 w L) (hP : Firm P) (k : Nat) {c : Nat} {t : TypeId} {cs ds : List Value} (hk : L[k]? = some (c, t, cs)) (g : w.grownBy w' (some c)) (hb : Blk t w' c ⟨ds⟩) : Hold P w0 w' (L.set k (c, t, ds)) := h.via hP fun _ o => o.change k hk g hb
theorem Hold.drop (h : Hold P w0 w L) (hP : Firm P) (hs : List.Sublist M L) : Hold P w0 w M := h.via hP fun _ o => o.drop hs
theorem Hold.perm (h : Hold P w0 w L) (hP : Firm P) (hp : List.Perm L M) : Hold P w0 w M := h.via hP fun _ o => o.perm hp
theorem Hold.get (h : Hold P w0 w L) (k : Nat) {c : Nat} {t : TypeId} {cs : List Value} (hk : L[k]? = some (c, t, cs)) : Blk t w c ⟨cs⟩ := by
  obtain ⟨_, _, o⟩ := h.own
  exact o.get k hk
theorem Hold.lt (h : Hold P w0 w L) (k : Nat) {c : Nat} {t : TypeId} {cs : List Value} (hk : L[k]? = some (c, t, cs)) : c < w.heap.size := (h.get k hk).lt
theorem Hold.cell (h : Hold P w0 w L) (k j : Nat) {c : Nat} {t : TypeId} {cs : List Value} {v : Value} (hk : L[k]? = some (c, t, cs)) (hv : cs[j]? = some v) : w.cell? ⟨c, j, none⟩ = some v := (h.get k hk).at j hv
theorem Hold.free (h : Hold P w0 w L) (k j : Nat) {c : Nat} {t : TypeId} {cs : List Value} (hk : L[k]? = some (c, t, cs)) : w.frozen? ⟨c, j, none⟩ = false := (h.get k hk).free j
theorem Hold.grow (h : Hold P w0 w L) : w0.grownBy w none := by
  obtain ⟨b, rfl, o⟩ := h.own
  exact o.grow
theorem Hold.size (h : Hold P w0 w L) : w0.heap.size ≤ w.heap.size := h.grow.size
theorem Hold.below (h : Hold P w0 w L) : Below w0.heap.size w0 w := gb_below h.grow
theorem Hold.old (h : Hold P w0 w L) {p : Addr} {v : Value} (hc : w0.cell? p = some v) : w.cell? p = some v := h.grow.cell hc (by simp)
end

/-- Two things, none of whose blocks is the other's. -/
def Pair (P Q : World → (Nat → Prop) → Prop) : World → (Nat → Prop) → Prop := fun w F => ∃ A B, P w A ∧ Q w B ∧ Sep A B ∧ F = fun k => A k ∨ B k
theorem Firm.pair {P Q : World → (Nat → Prop) → Prop} (hP : Firm P) (hQ : Firm Q) : Firm (Pair P Q) := by
  rintro w w' F ⟨A, B, p, q, s, rfl⟩ hk
  exact ⟨A, B, hP w w' A p (fun k h => hk k (.inl h)), hQ w w' B q (fun k h => hk k (.inr h)), s, rfl⟩
/-- Nothing. -/
def Nil : World → (Nat → Prop) → Prop := fun _ F => F = fun _ => False
theorem Firm.nil : Firm Nil := fun _ _ _ h _ => h
theorem kept_nil {w : World} {k : Nat} {o : Obj} (h : keptOf (fun _ => False) w k = some o) : False := (kept_in h).1
theorem Hold.start {b : World} (w : World) (h : b.grownBy w none) : Hold Nil b w [] := ⟨fun _ => False, rfl, fun _ h => h.elim, ⟨h, by simp, by simp, fun k o hk => (kept_nil hk).elim, fun k o hk => (kept_nil hk).elim⟩⟩
/-- What was there beside what came since. -/
theorem Hold.join {P Q : World → (Nat → Prop) → Prop} {w0 w w' : World} {R X : Blks} (h : Hold P w0 w R) (hP : Firm P) (k : Hold Q w w' X) : Hold (Pair P Q) w0 w' (X ++ R) := by
  obtain ⟨F, p, hf, o⟩ := h
  obtain ⟨G, q, hg, o'⟩ := k
  have g := o'.grow
  have hk : ∀ i, F i → w'.heap[i]? = w.heap[i]? := fun i hi => g.block i (hf i hi).2 (by simp)
  refine ⟨fun i => F i ∨ G i, ⟨F, G, hP w w' F p hk, q, fun i h1 h2 => ?_, rfl⟩, fun i hi => ?_, ⟨gb_trans o.grow g, fun e he => ?_, ?_, fun i ob hi => ?_, fun i ob hi e he => ?_⟩⟩
  · have := (hf i h1).2
    have := (hg i h2).1
    omega
  · have hs := g.size
    have hs0 := o.grow.size
    simp at hs hs0
    rcases hi with hi | hi
    · have := hf i hi; omega
    · have := hg i hi; omega
  · rcases List.mem_append.1 he with he | he
    · refine ⟨Nat.le_trans o.grow.size (o'.blk e he).1, (o'.blk e he).2⟩
    · exact ⟨(o.blk e he).1, (o.blk e he).2.grown g (by simp)⟩
  · refine List.pairwise_append.2 ⟨o'.down, o.down, fun a ha b hb => ?_⟩
    have h1 := (o'.blk a ha).1
    have h2 := (o.blk b hb).2.lt
    simp at h1
    omega
  · obtain ⟨h1, h2⟩ := kept_in (F := fun i => F i ∨ G i) hi
    have hs0 := o.grow.size
    simp at hs0
    refine ⟨h2, ?_⟩
    rcases h1 with h1 | h1
    · exact (hf i h1).1
    · exact Nat.le_trans hs0 (hg i h1).1
  · obtain ⟨h1, _⟩ := kept_in (F := fun i => F i ∨ G i) hi
    rcases List.mem_append.1 he with he | he
    · rcases h1 with h1 | h1
      · have h2 := (o'.blk e he).1
        have := (hf i h1).2
        simp at h2
        omega
      · obtain ⟨ob', e'⟩ := kept_of (w := w') h1 (hg i h1).2
        exact o'.off i ob' e' e he
    · have h2 := (o.blk e he).2.lt
      rcases h1 with h1 | h1
      · obtain ⟨ob', e'⟩ := kept_of (w := w) h1 (hf i h1).2
        exact o.off i ob' e' e he
      · have := (hg i h1).1
        omega
/-- A thing came, of new blocks alone. -/
theorem Hold.add {P : World → (Nat → Prop) → Prop} {w0 w w' : World} {R : Blks} {F : Nat → Prop} (o : Own ⟨w0, fun _ => none⟩ w R) (g : w.grownBy w' none) (p : P w' F) (hF : ∀ k, F k → w.heap.size ≤ k ∧ k < w'.heap.size) : Hold P w0 w' R := by
  have o' := o.grown g
  have hs0 := o.grow.size
  simp at hs0
  refine ⟨F, p, fun k hk => ⟨Nat.le_trans hs0 (hF k hk).1, (hF k hk).2⟩, ⟨o'.grow, o'.blk, o'.down, fun i ob hi => ?_, fun i ob hi e he => ?_⟩⟩
  · obtain ⟨h1, h2⟩ := kept_in hi
    exact ⟨h2, Nat.le_trans hs0 (hF i h1).1⟩
  · obtain ⟨h1, _⟩ := kept_in hi
    have := (hF i h1).1
    have := (o.blk e he).2.lt
    omega
end Go.Proofs.Ytnaagcofgnmmlaa.base
