/- Lists of records that grow by two, and what their objects' values are: plain facts, of no program. -/
import Derived.Test.YtocjbbfeegmkaaaCells
namespace Go.Proofs.Ytocjbbfeegmkaaa.ce
open Go Go.RowKit Go.Proofs.Ytocjbbfeegmkaaa.base Go.Proofs.Ytocjbbfeegmkaaa.ar Go.Proofs.Ytocjbbfeegmkaaa.ds Go.Proofs.Ytocjbbfeegmkaaa.rf Go.Proofs.Ytocjbbfeegmkaaa.vl

/-- Two records for each of k numbers. -/
def twos (f g : Nat → Rc) (k : Nat) : List Rc := (List.range k).flatMap fun i => [f i, g i]
theorem twos_succ (f g : Nat → Rc) (k : Nat) : twos f g (k + 1) = twos f g k ++ [f k] ++ [g k] := by simp [twos, List.range_succ]
theorem twos_length (f g : Nat → Rc) (k : Nat) : (twos f g k).length = 2 * k := by
  induction k with
  | zero => rfl
  | succ k ih => rw [twos_succ, List.length_append, List.length_append, ih]; simp; omega
theorem twos_get (f g : Nat → Rc) (k i : Nat) (h : i < k) : (twos f g k)[2 * i]? = some (f i) ∧ (twos f g k)[2 * i + 1]? = some (g i) := by
  induction k with
  | zero => omega
  | succ k ih =>
    have hl := twos_length f g k
    have e : twos f g (k + 1) = twos f g k ++ [f k, g k] := by rw [twos_succ]; simp
    rw [e]
    by_cases hi : i < k
    · rw [List.getElem?_append_left (by omega), List.getElem?_append_left (by omega)]
      exact ih hi
    · obtain rfl : i = k := by omega
      refine ⟨?_, ?_⟩
      · rw [List.getElem?_append_right (by omega), hl, Nat.sub_self]
        rfl
      · rw [List.getElem?_append_right (by omega), hl, show 2 * i + 1 - 2 * i = 1 by omega]
        rfl
theorem firsts_twos (z : Nat → Int) (k : Nat) : firsts z k = twos (fun i => ⟨1, z i, 0, 0, 0, 0, 0, 0, 0⟩) (fun i => ⟨2, 0, -1, 2 * i, 2 * i, 0, 0, 0, 0⟩) k := rfl

theorem recAt_nat (rs : List Rc) (n : Nat) : recAt rs (n : Int) = rs[n]? := by simp [recAt]
theorem recAt_left (a b : List Rc) (k : Int) (h : k < a.length) : recAt (a ++ b) k = recAt a k := by
  unfold recAt
  split
  · rw [List.getElem?_append_left (by omega)]
  · rfl
theorem recAt_right (a b : List Rc) (k : Int) (h : (a.length : Int) ≤ k) : recAt (a ++ b) k = recAt b (k - a.length) := by
  unfold recAt
  rw [if_pos (by omega), if_pos (by omega), List.getElem?_append_right (by omega)]
  congr 1
  omega
theorem recAt_twos (f g : Nat → Rc) (k i : Nat) (h : i < k) : recAt (twos f g k) (2 * (i : Int)) = some (f i) ∧ recAt (twos f g k) (2 * (i : Int) + 1) = some (g i) := by
  have := twos_get f g k i h
  unfold recAt
  rw [if_pos (by omega), if_pos (by omega), show (2 * (i : Int)).toNat = 2 * i by omega, show (2 * (i : Int) + 1).toNat = 2 * i + 1 by omega]
  exact this

/-- The heads, of which the first k are others. -/
def headsTo (v : Nat → Int) (n k : Nat) : List Int := (List.range n).map fun i => if i < k then v i else 2 * (i : Int) + 1
theorem headsTo_zero (v : Nat → Int) (n : Nat) : headsTo v n 0 = heads n := by simp [headsTo, heads]
theorem headsTo_length (v : Nat → Int) (n k : Nat) : (headsTo v n k).length = n := by simp [headsTo]
theorem headsTo_get (v : Nat → Int) (n k j : Nat) (h : j < n) : (headsTo v n k)[j]? = some (if j < k then v j else 2 * (j : Int) + 1) := by simp [headsTo, h]
theorem headsTo_set (v : Nat → Int) (n k : Nat) (h : k < n) : (headsTo v n k).set k (v k) = headsTo v n (k + 1) := by
  apply List.ext_getElem?
  intro j
  by_cases hj : j < n
  · rw [headsTo_get _ _ _ _ hj]
    by_cases e : j = k
    · subst e
      rw [List.getElem?_set_self (by rw [headsTo_length]; exact h)]
      simp
    · rw [List.getElem?_set_ne (by omega), headsTo_get _ _ _ _ hj]
      congr 1
      by_cases h1 : j < k
      · rw [if_pos h1, if_pos (by omega)]
      · rw [if_neg h1, if_neg (by omega)]
  · rw [List.getElem?_eq_none (by rw [List.length_set, headsTo_length]; omega), List.getElem?_eq_none (by rw [headsTo_length]; omega)]

theorem heads_get (n j : Nat) (h : j < n) : (heads n)[j]? = some (2 * (j : Int) + 1) := by simp [heads, h]

/-- The values of the first objects, as a list. -/
def vals0 (z : Nat → Int) (n : Nat) : List Int := (List.range n).map z
theorem vals0_length (z : Nat → Int) (n : Nat) : (vals0 z n).length = n := by simp [vals0]
theorem vals0_get (z : Nat → Int) (n j : Nat) (h : j < n) : (vals0 z n)[j]? = some (z j) := by simp [vals0, h]

/-- An object that has its first locator. -/
theorem ValAt.first {z : Nat → Int} {L : Nat} {tl : List Rc} {hd : List Int} {is : Int → Bool} {num : Int → Nat → Int} {j : Nat} (hj : j < L) (hh : hd[j]? = some (2 * (j : Int) + 1)) : ValAt (firsts z L ++ tl) hd is num j ⟨1, z j, 0, 0, 0, 0, 0, 0, 0⟩ := by
  have hl := firsts_length z L
  have h := recAt_twos (fun i => ⟨1, z i, 0, 0, 0, 0, 0, 0, 0⟩) (fun i => ⟨2, 0, -1, 2 * i, 2 * i, 0, 0, 0, 0⟩) L j hj
  rw [← firsts_twos] at h
  refine ⟨2 * (j : Int) + 1, ⟨2, 0, -1, 2 * j, 2 * j, 0, 0, 0, 0⟩, hh, ?_, rfl, (by decide : (Lit.int .i64 (-1)).wf = true), ?_, rfl⟩
  · rw [recAt_left _ _ _ (by omega)]
    exact h.2
  · rw [show rsv ⟨2, 0, -1, 2 * j, 2 * j, 0, 0, 0, 0⟩ _ = 2 * (j : Int) by simp [rsv], recAt_left _ _ _ (by omega)]
    exact h.1

/-- Block g is a row of numbers that may be written, that begins with l. -/
def Wr (w : World) (g : Nat) (l : List Int) : Prop := ∃ cur : Array Value, Blk 2 w g cur ∧ ∀ (i : Nat) (x : Int), l[i]? = some x → cur[i]? = some (Value.int .i64 x)
theorem Wr.of_own {w : World} {b g c : Nat} {l : List Int} (h : w.ownsRow b 2 1 (.slice (some ⟨g, 0, none⟩) l.length c) l.length (ints l)) : Wr w g l := by
  obtain ⟨cur, hc⟩ := ownsRow_type h (k := g) rfl
  refine ⟨cur, hc, fun i x hx => ?_⟩
  have hi := (List.getElem?_eq_some_iff.1 hx).1
  have h1 := h.cellAt i (by omega)
  rw [Blk.cell hc] at h1
  rw [h1]
  exact ints_get l i x hx
theorem Wr.lt {w : World} {g : Nat} {l : List Int} (h : Wr w g l) : g < w.heap.size := by obtain ⟨cur, hb, _⟩ := h; exact hb.lt
theorem Wr.cell {w : World} {g : Nat} {l : List Int} (h : Wr w g l) (i : Nat) (x : Int) (hx : l[i]? = some x) : w.cell? ⟨g, i, none⟩ = some (.int .i64 x) ∧ w.frozen? ⟨g, i, none⟩ = false := by
  obtain ⟨cur, hb, hc⟩ := h
  exact ⟨(hb.cell i).trans (hc i x hx), hb.free i⟩
theorem Wr.step {F F' : Nat → Prop} {w w' : World} {g : Nat} {l : List Int} (h : Wr w g l) (s : Step F F' w w') (hf : ¬ F g) : Wr w' g l ∧ ¬ F' g := by
  obtain ⟨cur, hb, hc⟩ := h
  refine ⟨⟨cur, hb.keep (s.only.block g hb.lt hf), hc⟩, fun e => ?_⟩
  rcases s.foot g e with h1 | h1
  · exact hf h1
  · have := hb.lt; omega
theorem Wr.keep {w w' : World} {g : Nat} {l : List Int} (h : Wr w g l) (e : w'.heap[g]? = w.heap[g]?) : Wr w' g l := by
  obtain ⟨cur, hb, hc⟩ := h
  exact ⟨cur, hb.keep e, hc⟩
theorem Wr.set {w : World} {g : Nat} {l : List Int} (h : Wr w g l) (j : Nat) (x : Int) (hj : j < l.length) : Wr (w.setCell ⟨g, j, none⟩ (.int .i64 x)) g (l.set j x) := by
  obtain ⟨cur, hb, hc⟩ := h
  refine ⟨_, hb.set j _, fun i y hy => ?_⟩
  have hjc : j < cur.size := by
    have := hc j _ (List.getElem?_eq_getElem hj)
    exact (Array.getElem?_eq_some_iff.1 this).1
  by_cases e : i = j
  · subst e
    rw [List.getElem?_set_self hj] at hy
    rw [Array.getElem?_setIfInBounds_self_of_lt hjc]
    simpa using hy
  · rw [List.getElem?_set_ne (by omega)] at hy
    rw [Array.getElem?_setIfInBounds_ne (by omega)]
    exact hc i y hy
theorem Wr.rd {w : World} {g : Nat} {l : List Int} (h : Wr w g l) : Rd w (some ⟨g, 0, none⟩) l := .inr ⟨g, 0, rfl, fun i x hx => by rw [show 0 + i = i by omega]; exact (h.cell i x hx).1⟩

/-- The values, of which the first k are others. -/
def valsTo (z1 z0 : Nat → Int) (n k : Nat) : List Int := (List.range n).map fun i => if i < k then z1 i else z0 i
theorem valsTo_length (z1 z0 : Nat → Int) (n k : Nat) : (valsTo z1 z0 n k).length = n := by simp [valsTo]
theorem valsTo_get (z1 z0 : Nat → Int) (n k j : Nat) (h : j < n) : (valsTo z1 z0 n k)[j]? = some (if j < k then z1 j else z0 j) := by simp [valsTo, h]
theorem valsTo_set (z1 z0 : Nat → Int) (n k : Nat) (h : k < n) : (valsTo z1 z0 n k).set k (z1 k) = valsTo z1 z0 n (k + 1) := by
  apply List.ext_getElem?
  intro j
  by_cases hj : j < n
  · rw [valsTo_get _ _ _ _ _ hj]
    by_cases e : j = k
    · subst e
      rw [List.getElem?_set_self (by rw [valsTo_length]; exact h)]
      simp
    · rw [List.getElem?_set_ne (by omega), valsTo_get _ _ _ _ _ hj]
      congr 1
      by_cases h1 : j < k
      · rw [if_pos h1, if_pos (by omega)]
      · rw [if_neg h1, if_neg (by omega)]
  · rw [List.getElem?_eq_none (by rw [List.length_set, valsTo_length]; omega), List.getElem?_eq_none (by rw [valsTo_length]; omega)]
theorem valsTo_zero (z1 z0 : Nat → Int) (n : Nat) : valsTo z1 z0 n 0 = vals0 z0 n := by simp [valsTo, vals0]
end Go.Proofs.Ytocjbbfeegmkaaa.ce
