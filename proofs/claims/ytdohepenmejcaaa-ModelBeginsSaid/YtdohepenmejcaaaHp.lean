/- The tries of a trace's beginning, and those of the trace. Of no program, and of no memory. -/
import Derived.Test.YtdohepenmejcaaaHmR
namespace Go.Proofs.Ytdohepenmejcaaa.base
open Go

theorem stepT_ac (t : Tr) (i : Nat) (e : Ev) : t.ac.length ≤ (stepT t i e).ac.length := by
  unfold stepT
  repeat' split
  all_goals simp [relAll]
theorem trAt_ac (e : Evs) (b : Nat) : ∀ i j, (trAt e b i).ac.length ≤ (trAt e b (i + j)).ac.length
  | _, 0 => Nat.le_refl _
  | i, j + 1 => by
    have ih := trAt_ac e b i j
    rw [← Nat.add_assoc, trAt]
    split
    · exact Nat.le_trans ih (stepT_ac _ _ _)
    · exact ih

/-- What begins ahead of a place, begins ahead of a later one, first. -/
theorem begins_pre (e : Evs) (m j : Nat) : ∃ r, begins e (m + j) = begins e m ++ r := by
  unfold begins
  rw [List.range_add, List.filter_append]
  exact ⟨_, rfl⟩

theorem tries_len (e : Evs) {m n : Nat} (h : m ≤ n) : (tries e m).length ≤ (tries e n).length := by
  obtain ⟨r, hr⟩ := begins_pre e m (n - m)
  rw [show m + (n - m) = n by omega] at hr
  unfold tries
  rw [List.length_map, List.length_map, hr, List.length_append]
  omega
theorem begins_n (e : Evs) (n : Nat) : (begins e n).length ≤ n := by
  unfold begins
  have := List.length_filter_le (fun i => decide ((e i).k = 1)) (List.range n)
  rwa [List.length_range] at this
theorem tries_n (e : Evs) (n : Nat) : (tries e n).length ≤ n := by
  unfold tries
  rw [List.length_map]
  exact begins_n e n

/-- A beginning's tries are the trace's own first ones: what had ended stands as it was, and none did less. -/
theorem tries_pre (e : Evs) {m n : Nat} (h : m ≤ n) {i : Nat} {x y : Tr} (hx : (tries e m)[i]? = some x) (hy : (tries e n)[i]? = some y) : x.b = y.b ∧ (0 ≤ x.en → x.en = y.en) ∧ x.ac.length ≤ y.ac.length := by
  obtain ⟨r, hr⟩ := begins_pre e m (n - m)
  rw [show m + (n - m) = n by omega] at hr
  unfold tries at hx hy
  rw [List.getElem?_map, Option.map_eq_some_iff] at hx hy
  obtain ⟨b, hb, rfl⟩ := hx
  obtain ⟨c, hc, rfl⟩ := hy
  have hl : i < (begins e m).length := (List.getElem?_eq_some_iff.1 hb).1
  rw [hr, List.getElem?_append_left hl, hb] at hc
  cases hc
  refine ⟨by rw [(trAt_fix e b m).2.2.2.2, (trAt_fix e b n).2.2.2.2], fun h0 => by rw [trAt_end e b h0 h], ?_⟩
  have := trAt_ac e b m (n - m)
  rwa [show m + (n - m) = n by omega] at this

/-- What was sorted by the beginnings: the tries, one by one. -/
theorem sorted_tries (e : Evs) {n : Nat} {β : Type} {ys : List (Tr × β)} (h2 : (ys.map Prod.fst).Perm (tries e n)) (h3 : (ys.map Prod.fst).Pairwise (fun x y => x.b ≤ y.b)) : ys.map Prod.fst = tries e n :=
  sorted_one Tr.b h2 (tries_sorted e n) (h3.imp fun h => by omega)
end Go.Proofs.Ytdohepenmejcaaa.base
