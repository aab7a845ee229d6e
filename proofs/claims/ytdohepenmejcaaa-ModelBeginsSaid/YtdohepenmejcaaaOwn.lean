/- One's own blocks: a list of blocks (their numbers, types and cells; a new one comes to the front) that were made since a world w0, and all that was there in w0 stands. Plain facts on memory, of no program. -/
import Derived.Test.YtdohepenmejcaaaBase
import Derived.Test.YtdohepenmejcaaaGrow
import Derived.Deep.RegionHeld
namespace Go.Proofs.Ytdohepenmejcaaa.base
open Go Go.RowKit

/-- w came of w0 by new blocks alone, and those of L are among them, with these cells. -/
structure Own (w0 w : World) (L : List (Nat × TypeId × List Value)) : Prop where
  grow : w0.grownBy w none
  blk : ∀ e ∈ L, w0.heap.size ≤ e.1 ∧ Blk e.2.1 w e.1 ⟨e.2.2⟩
  down : L.Pairwise (fun a b => a.1 ≠ b.1)

theorem Blk.at {w : World} {b : Nat} {t : TypeId} {cs : List Value} (h : Blk t w b ⟨cs⟩) (j : Nat) {v : Value} (hv : cs[j]? = some v) : w.cell? ⟨b, j, none⟩ = some v := by
  rw [h.cell j]
  simpa using hv
theorem size_alloc (w : World) (o : Obj) : (w.alloc o).heap.size = w.heap.size + 1 := by simp
theorem size_setCell (w : World) (p : Addr) (u : Value) : (w.setCell p u).heap.size = w.heap.size := by simp [World.setCell]

/-- Nor is the block behind the next one there yet. -/
theorem new_ne1 (w : World) (a : Addr) {u : Value} (h : w.cell? a = some u) : w.heap.size + 1 ≠ a.block := Nat.ne_of_gt (Nat.lt_succ_of_lt (World.block_lt_of_cell? w a h))

section
variable {w0 w w' : World} {L : List (Nat × TypeId × List Value)}
theorem Own.start (w : World) : Own w w [] := ⟨gb_refl w _, by simp, by simp⟩
theorem Own.drew (h : Own w0 w L) : Own w0 w.drew L := ⟨gb_drew h.grow, h.blk, h.down⟩
theorem Own.drewN (h : Own w0 w L) (n : Nat) : Own w0 (w.drewN n) L := ⟨gb_drewN h.grow n, h.blk, h.down⟩
theorem Own.size (h : Own w0 w L) : w0.heap.size ≤ w.heap.size := h.grow.size
theorem Own.grown (h : Own w0 w L) (g : w.grownBy w' none) : Own w0 w' L :=
  ⟨gb_trans h.grow g, fun e he => ⟨(h.blk e he).1, (h.blk e he).2.grown g (by simp)⟩, h.down⟩
theorem Own.skip (h : Own w0 w L) (o : Obj) : Own w0 (w.alloc o) L := h.grown (World.grownBy_alloc w o none)
theorem Own.alloc (h : Own w0 w L) (t : TypeId) (cs : List Value) : Own w0 (w.alloc (.cells ⟨cs⟩ t)) ((w.heap.size, t, cs) :: L) := by
  refine ⟨gb_alloc h.grow _, ?_, ?_⟩
  · intro e he
    rcases List.mem_cons.1 he with rfl | he
    · exact ⟨h.grow.size, Blk.made w t _⟩
    · exact ⟨(h.blk e he).1, (h.blk e he).2.alloc _⟩
  · exact List.pairwise_cons.2 ⟨fun e he => Nat.ne_of_gt (h.blk e he).2.lt, h.down⟩
theorem Own.get (h : Own w0 w L) (k : Nat) {b : Nat} {t : TypeId} {cs : List Value} (hk : L[k]? = some (b, t, cs)) : Blk t w b ⟨cs⟩ := (h.blk _ (List.mem_of_getElem? hk)).2
theorem Own.base (h : Own w0 w L) (k : Nat) {b : Nat} {t : TypeId} {cs : List Value} (hk : L[k]? = some (b, t, cs)) : w0.heap.size ≤ b := (h.blk _ (List.mem_of_getElem? hk)).1
theorem Own.lt (h : Own w0 w L) (k : Nat) {b : Nat} {t : TypeId} {cs : List Value} (hk : L[k]? = some (b, t, cs)) : b < w.heap.size := (h.get k hk).lt
theorem Own.cell (h : Own w0 w L) (k j : Nat) {b : Nat} {t : TypeId} {cs : List Value} {v : Value} (hk : L[k]? = some (b, t, cs)) (hv : cs[j]? = some v) : w.cell? ⟨b, j, none⟩ = some v := by
  rw [(h.get k hk).cell j]
  simpa using hv
theorem Own.free (h : Own w0 w L) (k j : Nat) {b : Nat} {t : TypeId} {cs : List Value} (hk : L[k]? = some (b, t, cs)) : w.frozen? ⟨b, j, none⟩ = false := (h.get k hk).free j
theorem Own.ne (h : Own w0 w L) (i k : Nat) {b c : Nat} {t u : TypeId} {cs ds : List Value} (hi : L[i]? = some (b, t, cs)) (hk : L[k]? = some (c, u, ds)) (hik : i ≠ k) : b ≠ c := by
  have := List.pairwise_iff_getElem.1 h.down
  obtain ⟨hi1, hi2⟩ := List.getElem?_eq_some_iff.1 hi
  obtain ⟨hk1, hk2⟩ := List.getElem?_eq_some_iff.1 hk
  rcases Nat.lt_or_gt_of_ne hik with l | l
  · have h3 := this i k hi1 hk1 l
    rw [hi2, hk2] at h3
    exact h3
  · have h3 := this k i hk1 hi1 l
    rw [hi2, hk2] at h3
    exact fun e => h3 e.symm
theorem Own.ne' (h : Own w0 w L) (i k : Nat) {b c : Nat} {t u : TypeId} {cs ds : List Value} (hi : L[i]? = some (b, t, cs)) (hk : L[k]? = some (c, u, ds)) (hik : i ≠ k) : b ≠ c ∧ c ≠ b :=
  ⟨h.ne i k hi hk hik, h.ne k i hk hi (Ne.symm hik)⟩
/-- Entry k alone was written. -/
theorem Own.change (h : Own w0 w L) (k : Nat) {b : Nat} {t : TypeId} {cs ds : List Value} (hk : L[k]? = some (b, t, cs)) (g : w.grownBy w' (some b)) (hb : Blk t w' b ⟨ds⟩) : Own w0 w' (L.set k (b, t, ds)) := by
  obtain ⟨hk1, hk2⟩ := List.getElem?_eq_some_iff.1 hk
  refine ⟨gb_over h.grow g (h.base k hk), ?_, ?_⟩
  · intro e he
    obtain ⟨i, hi⟩ := List.getElem?_of_mem he
    by_cases hik : k = i
    · subst hik
      rw [List.getElem?_set_self hk1] at hi
      cases hi
      exact ⟨h.base k hk, hb⟩
    · rw [List.getElem?_set_ne hik] at hi
      obtain ⟨c, u, es⟩ := e
      refine ⟨h.base i hi, (h.get i hi).grown g ?_⟩
      intro e1
      cases e1
      exact h.ne k i hk hi hik rfl
  · have hd := List.pairwise_iff_getElem.1 h.down
    refine List.pairwise_iff_getElem.2 fun i j hi hj hij => ?_
    have hi' : i < L.length := by simpa using hi
    have hj' : j < L.length := by simpa using hj
    have h0 := hd i j hi' hj' hij
    have key : ∀ m (hm : m < L.length) (hm2 : m < (L.set k (b, t, ds)).length), ((L.set k (b, t, ds))[m]).1 = (L[m]).1 := by
      intro m hm hm2
      by_cases hkm : k = m
      · subst hkm
        rw [List.getElem_set_self, hk2]
      · rw [List.getElem_set_ne hkm]
    rw [key i hi' hi, key j hj' hj]
    exact h0
theorem Own.set (h : Own w0 w L) (k j : Nat) (u : Value) {b : Nat} {t : TypeId} {cs : List Value} (hk : L[k]? = some (b, t, cs)) : Own w0 (w.setCell ⟨b, j, none⟩ u) (L.set k (b, t, cs.set j u)) :=
  h.change k hk (gb_setB (gb_refl _ _) u) (by simpa using (h.get k hk).set j u)
theorem Own.below (h : Own w0 w L) : Below w0.heap.size w0 w := gb_below h.grow
/-- What was there stays. -/
theorem Own.old (h : Own w0 w L) {p : Addr} {v : Value} (hc : w0.cell? p = some v) : w.cell? p = some v := h.grow.cell hc (by simp)
theorem Own.apart (h : Own w0 w L) (k : Nat) {b c : Nat} {t : TypeId} {cs : List Value} (hk : L[k]? = some (b, t, cs)) (hc : c < w0.heap.size) : c < b := Nat.lt_of_lt_of_le hc (h.base k hk)
theorem Own.perm (h : Own w0 w L) {M : List (Nat × TypeId × List Value)} (hp : List.Perm L M) : Own w0 w M :=
  ⟨h.grow, fun e he => h.blk e (hp.mem_iff.2 he), (hp.pairwise_iff (fun {_ _} e => Ne.symm e)).1 h.down⟩
theorem Own.swap {x y : Nat × TypeId × List Value} (h : Own w0 w (x :: y :: L)) : Own w0 w (y :: x :: L) := h.perm (List.Perm.swap y x L)
theorem Own.drop (h : Own w0 w L) {M : List (Nat × TypeId × List Value)} (hs : List.Sublist M L) : Own w0 w M := ⟨h.grow, fun e he => h.blk e (hs.mem he), h.down.sublist hs⟩
end
end Go.Proofs.Ytdohepenmejcaaa.base
