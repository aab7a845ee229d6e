/- What a walk is told of an argument that is a try, by value. -/
import Derived.Test.YtdohepenmejcaaaOpenB
import Derived.Test.YtdohepenmejcaaaHg
namespace Go.Proofs.Ytdohepenmejcaaa.hs
open Go Go.RowKit Go.ChangeShapes Go.WideShapes Go.Deep Go.Proofs.Ytdohepenmejcaaa.base
set_option linter.unusedVariables false
set_option maxRecDepth 100000

/-- Its numbers are ints. -/
structure AccWf (a : Acc) : Prop where
  k : (Lit.int .i64 a.k).wf = true
  ob : (Lit.int .i64 a.ob).wf = true
  va : (Lit.int .i64 a.va).wf = true

section
variable {H : Type} {enc : TypeId × Value → H} {P : Program} {w : World} {base : Nat} {held : Bool} {t : TypeId} {fuel : Nat} {x : DataW H × List MemPlace}
/-- The cells of a struct of ints and bools, of several types. -/
theorem plain_wf {fs : Array Field} {n : Nat} {isB : Nat → Bool} {cs : List Value} (he : P.underlying t = some (.struct fs))
    (hfs : ∀ j, j < n → ∃ ti, (fs[j]?.map fun f => (f.offset, f.type)) = some (j, ti) ∧ P.cellsOf ti = 1 ∧ P.underlying ti = some (if isB j then .bool else .int .i64))
    (h : DataW.trod enc P w base (fun _ => true) held fuel t cs = some x) : ∃ (z : Nat → Int) (y : Nat → Bool), ∀ j, j < n → cs[j]? = some (mixed isB z y j) ∧ (Lit.int .i64 (z j)).wf = true := by
  obtain ⟨xs, n', _, _, hl1, _, hf⟩ := DataW.trod_struct he h
  obtain ⟨g, hg⟩ := choose_lt (α := Int × Bool) (n := n) (p := fun j v => cs[j]? = some (if isB j then .bool v.2 else .int .i64 v.1) ∧ (Lit.int .i64 v.1).wf = true) (fun j hj => by
    obtain ⟨ti, e1, hc, hu⟩ := hfs j hj
    obtain ⟨fj, hfj, e2⟩ := Option.map_eq_some_iff.1 e1
    simp only [Prod.mk.injEq] at e2
    have e3 := hf j fj hfj
    rw [e2.1, e2.2, hc] at e3
    have hxs : j < xs.length := by
      rcases Nat.lt_or_ge j xs.length with h' | h'
      · exact h'
      · have := (Array.getElem?_eq_some_iff.1 hfj).1
        omega
    rw [List.getElem?_eq_getElem hxs] at e3
    have key : ∀ v : Value, (cs.drop j).take 1 = [v] → cs[j]? = some v := fun v hv => by
      have h0 : ((cs.drop j).take 1)[0]? = some v := by rw [hv]; rfl
      simpa using h0
    by_cases hB : isB j = true
    · rw [if_pos hB] at hu
      obtain ⟨v, hv, _⟩ := DataW.trod_bool hu e3
      exact ⟨(0, v), by rw [if_pos hB]; exact key _ hv, (by decide : (Lit.int .i64 0).wf = true)⟩
    · rw [if_neg hB] at hu
      obtain ⟨v, hv, _, hw⟩ := DataW.trod_int hu e3
      exact ⟨(v, false), by rw [if_neg hB]; exact key _ hv, hw⟩)
  exact ⟨fun j => (g j).1, fun j => (g j).2, fun j hj => hg j hj⟩
end

section
variable {H : Type} {enc : TypeId × Value → H} {w : World} {base : Nat} {held : Bool} {fuel : Nat} {x : DataW H × List MemPlace}
theorem acc_of {cs : List Value} (h : DataW.trod enc Try.prog w base (fun _ => true) held fuel 54 cs = some x) : ∃ a : Acc, AccWf a ∧ ∀ (j : Nat) (u : Value), (accC a)[j]? = some u → cs[j]? = some u := by
  obtain ⟨z, y, h1⟩ := plain_wf (n := 6) (isB := fun j => j == 4 || j == 5) Try.underlying54 (by
    intro j hj
    rcases (by omega : j = 0 ∨ j = 1 ∨ j = 2 ∨ j = 3 ∨ j = 4 ∨ j = 5) with rfl | rfl | rfl | rfl | rfl | rfl
    · exact ⟨_, rfl, by kernel_rfl, by kernel_rfl⟩
    · exact ⟨_, rfl, by kernel_rfl, by kernel_rfl⟩
    · exact ⟨_, rfl, by kernel_rfl, by kernel_rfl⟩
    · exact ⟨_, rfl, by kernel_rfl, by kernel_rfl⟩
    · exact ⟨_, rfl, by kernel_rfl, by kernel_rfl⟩
    · exact ⟨_, rfl, by kernel_rfl, by kernel_rfl⟩) h
  refine ⟨⟨z 0, z 1, z 2, z 3, y 4, y 5⟩, ⟨(h1 1 (by omega)).2, (h1 2 (by omega)).2, (h1 3 (by omega)).2⟩, fun j u hu => ?_⟩
  have hj : j < 6 := (List.getElem?_eq_some_iff.1 hu).1
  rcases (by omega : j = 0 ∨ j = 1 ∨ j = 2 ∨ j = 3 ∨ j = 4 ∨ j = 5) with rfl | rfl | rfl | rfl | rfl | rfl
  · exact (h1 0 (by omega)).1.trans hu
  · exact (h1 1 (by omega)).1.trans hu
  · exact (h1 2 (by omega)).1.trans hu
  · exact (h1 3 (by omega)).1.trans hu
  · exact (h1 4 (by omega)).1.trans hu
  · exact (h1 5 (by omega)).1.trans hu

theorem accs_of {cs : List Value} (h : DataW.trod enc Try.prog w base (fun _ => true) held fuel 31 cs = some x) : ∃ (a : Option Addr) (cap : Nat) (l : List Acc), cs = [.slice a l.length cap] ∧ l.length ≤ cap ∧ cap ≤ maxLen ∧ IsL accC w a l ∧ ∀ y ∈ l, AccWf y := by
  rcases open_slice Try.underlying31 h with ⟨hcs, _⟩ | ⟨c, len, cap, k, f, D, Pl, hcs, _, hl, hm, hk, _, hel⟩
  · exact ⟨none, 0, [], hcs, Nat.le_refl _, Nat.zero_le _, .inl rfl, by simp⟩
  · simp only [if_true] at hk
    subst hk
    have k6 : Try.prog.cellsOf 54 = 6 := by kernel_rfl
    rw [k6] at hel
    obtain ⟨g, hg⟩ := choose_lt (α := Acc) (n := len) (p := fun i y => AccWf y ∧ ∀ (j : Nat) (u : Value), (accC y)[j]? = some u → w.cell? (c.add (i * 6 + j)) = some u) (fun i hi' => by
      obtain ⟨cs', h1, h2⟩ := hel i (by omega)
      obtain ⟨_, hlen, hcell⟩ := World.cells?_some h1
      obtain ⟨y, hy0, hy⟩ := acc_of h2
      refine ⟨y, hy0, fun j u hu => ?_⟩
      rw [← add_add, hcell j (by have := (List.getElem?_eq_some_iff.1 hu).1; exact this)]
      exact hy j u hu)
    refine ⟨some c, k, (List.range len).map g, by simpa using hcs, by simpa using hl, hm, ?_, fun y hy => ?_⟩
    · by_cases h0 : len = 0
      · subst h0; exact .inl rfl
      · obtain ⟨b, off, hbo⟩ := plain_of ((hg 0 (by omega)).2 0 _ rfl)
        have hb := World.block_lt_of_cell? _ _ ((hg 0 (by omega)).2 0 _ rfl)
        have hc0 : c = ⟨b, off, none⟩ := by simpa [Addr.add] using hbo
        subst hc0
        refine .inr ⟨b, off, rfl, by simpa [Addr.add] using hb, fun j u hu => ?_⟩
        have hj : j < len * 6 := by have := (List.getElem?_eq_some_iff.1 hu).1; rw [rows_length accC_len] at this; simpa using this
        have hx : ((List.range len).map g)[j / 6]? = some (g (j / 6)) := by simp [show j / 6 < len by omega]
        have e1 : j / 6 * 6 + j % 6 = j := by omega
        have hu2 := rows_get accC_len _ _ (j % 6) _ hx (by omega)
        rw [e1] at hu2
        rw [← add_eq, ← e1]
        exact (hg (j / 6) (by omega)).2 (j % 6) u (hu2.symm.trans hu)
    · obtain ⟨i, hi, rfl⟩ := List.mem_map.1 hy
      exact (hg i (by simpa using hi)).1

/-- A try by value: its cells, and its accesses. -/
theorem try_of {cs : Array Value} (hsz : cs.size = 9) (h0 : DataW.trod enc Try.prog w base (fun _ => true) held fuel 33 (Value.agg cs).cells.toList = some x) : ∃ (t : Tr) (va : Option Addr) (vc : Nat), cs = ⟨trC t (.slice va t.ac.length vc)⟩ ∧ t.ac.length ≤ vc ∧ vc ≤ maxLen ∧ IsL accC w va t.ac ∧ ∀ y ∈ t.ac, AccWf y := by
  have h : DataW.trod enc Try.prog w base (fun _ => true) held fuel 33 cs.toList = some x := h0
  obtain ⟨xs, n', _, _, _, hl1, hf⟩ := DataW.trod_struct Try.underlying33 h
  have hl : xs.length = 9 := hl1
  have k0 : Try.prog.cellsOf 3 = 1 := by kernel_rfl
  have k1 : Try.prog.cellsOf 4 = 1 := by kernel_rfl
  have k2 : Try.prog.cellsOf 31 = 1 := by kernel_rfl
  have key : ∀ (j : Nat) (v : Value), (cs.toList.drop j).take 1 = [v] → cs.toList[j]? = some v := fun j v hv => by
    have h0 : ((cs.toList.drop j).take 1)[0]? = some v := by rw [hv]; rfl
    simpa using h0
  have fi : ∀ j, j < 7 → ∃ v : Int, cs.toList[j]? = some (.int .i64 v) := fun j hj => by
    have e3 : DataW.trod enc Try.prog w base (fun _ => true) held n' 3 ((cs.toList.drop j).take 1) = xs[j]? := by
      rw [← k0]
      rcases (by omega : j = 0 ∨ j = 1 ∨ j = 2 ∨ j = 3 ∨ j = 4 ∨ j = 5 ∨ j = 6) with rfl | rfl | rfl | rfl | rfl | rfl | rfl
      · exact hf 0 _ rfl
      · exact hf 1 _ rfl
      · exact hf 2 _ rfl
      · exact hf 3 _ rfl
      · exact hf 4 _ rfl
      · exact hf 5 _ rfl
      · exact hf 6 _ rfl
    rw [List.getElem?_eq_getElem (by omega)] at e3
    obtain ⟨v, hv, _, _⟩ := DataW.trod_int Try.underlying3 e3
    exact ⟨v, key j _ hv⟩
  obtain ⟨v0, g0⟩ := fi 0 (by omega)
  obtain ⟨v1, g1⟩ := fi 1 (by omega)
  obtain ⟨v2, g2⟩ := fi 2 (by omega)
  obtain ⟨v3, g3⟩ := fi 3 (by omega)
  obtain ⟨v4, g4⟩ := fi 4 (by omega)
  obtain ⟨v5, g5⟩ := fi 5 (by omega)
  obtain ⟨v6, g6⟩ := fi 6 (by omega)
  have f7 : DataW.trod enc Try.prog w base (fun _ => true) held n' 4 ((cs.toList.drop 7).take (Try.prog.cellsOf 4)) = xs[7]? := hf 7 _ rfl
  have f8 : DataW.trod enc Try.prog w base (fun _ => true) held n' 31 ((cs.toList.drop 8).take (Try.prog.cellsOf 31)) = xs[8]? := hf 8 _ rfl
  rw [k1, List.getElem?_eq_getElem (by omega)] at f7
  rw [k2, List.getElem?_eq_getElem (by omega)] at f8
  obtain ⟨v7, g7, _⟩ := DataW.trod_bool Try.underlying4 f7
  obtain ⟨va, vc, l, g8, c1, c2, hL, hW⟩ := accs_of f8
  refine ⟨⟨v0, v1, v2, v3, v4, v5, v6, v7, l⟩, va, vc, ?_, c1, c2, hL, hW⟩
  have g7' := key 7 _ g7
  have g8' := key 8 _ g8
  apply Array.ext'
  apply List.ext_getElem?
  intro j
  by_cases hj : j < 9
  · rcases (by omega : j = 0 ∨ j = 1 ∨ j = 2 ∨ j = 3 ∨ j = 4 ∨ j = 5 ∨ j = 6 ∨ j = 7 ∨ j = 8) with rfl | rfl | rfl | rfl | rfl | rfl | rfl | rfl | rfl
    · exact g0
    · exact g1
    · exact g2
    · exact g3
    · exact g4
    · exact g5
    · exact g6
    · exact g7'
    · exact g8'
  · rw [List.getElem?_eq_none (by simpa [hsz] using hj), List.getElem?_eq_none (by simp [trC]; omega)]
end
end Go.Proofs.Ytdohepenmejcaaa.hs
