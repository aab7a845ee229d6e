/- What a walk is told of an argument that is a slice of acts: a kind, a reading, an own one each. -/
import Derived.Test.YtfkfobloamambaaSt
import Derived.Test.YtfkfobloamambaaOpenB
namespace Go.Proofs.Ytfkfobloamambaa.rd
open Go Go.RowKit Go.ChangeShapes Go.WideShapes Go.Deep Go.Proofs.Ytfkfobloamambaa.base
set_option linter.unusedVariables false

/-- An act: kind, a reading, an own one. -/
structure Ac where
  k : Int
  r : Rd
  x : Ow
def Ac.cells (y : Ac) : List Value := [.int .i64 y.k, .int .i64 y.r.o, .int .i64 y.r.n, .int .i64 y.r.v, .int .i64 y.x.o, .int .i64 y.x.c, .int .i64 y.x.n, .int .i64 y.x.v, .bool y.x.b]
theorem alen (y : Ac) : y.cells.length = 9 := rfl

theorem at9 {w : World} {a : Option Addr} {j : Nat} {l : List Ac} (h : IsL Ac.cells w a l) {y : Ac} (hj : l[j]? = some y) : ∃ b off, a = some ⟨b, off, none⟩ ∧ b < w.heap.size ∧ w.cell? ⟨b, off + j * 9, none⟩ = some (.int .i64 y.k) ∧ w.cell? ⟨b, off + j * 9 + 1, none⟩ = some (.int .i64 y.r.o) ∧ w.cell? ⟨b, off + j * 9 + 2, none⟩ = some (.int .i64 y.r.n) ∧ w.cell? ⟨b, off + j * 9 + 3, none⟩ = some (.int .i64 y.r.v) ∧
    w.cell? ⟨b, off + j * 9 + 4, none⟩ = some (.int .i64 y.x.o) ∧ w.cell? ⟨b, off + j * 9 + 5, none⟩ = some (.int .i64 y.x.c) ∧ w.cell? ⟨b, off + j * 9 + 6, none⟩ = some (.int .i64 y.x.n) ∧ w.cell? ⟨b, off + j * 9 + 7, none⟩ = some (.int .i64 y.x.v) ∧ w.cell? ⟨b, off + j * 9 + 8, none⟩ = some (.bool y.x.b) := by
  obtain ⟨b, off, rfl, hb, h⟩ := h.at alen hj
  exact ⟨b, off, rfl, hb, h 0 _ rfl, h 1 _ rfl, h 2 _ rfl, h 3 _ rfl, h 4 _ rfl, h 5 _ rfl, h 6 _ rfl, h 7 _ rfl, h 8 _ rfl⟩

section
variable {H : Type} {enc : TypeId × Value → H} {P : Program} {w : World} {base : Nat} {held : Bool} {t e : TypeId} {fuel : Nat} {a : Option Addr} {len cap : Nat} {x : DataW H × List MemPlace}

/-- The cells of a struct of ints and bools, of several types. -/
theorem plain_cells {fs : Array Field} {n : Nat} {isB : Nat → Bool} {cs : List Value} (he : P.underlying t = some (.struct fs))
    (hfs : ∀ j, j < n → ∃ ti, (fs[j]?.map fun f => (f.offset, f.type)) = some (j, ti) ∧ P.cellsOf ti = 1 ∧ P.underlying ti = some (if isB j then .bool else .int .i64))
    (h : DataW.trod enc P w base (fun _ => true) held fuel t cs = some x) : ∃ (z : Nat → Int) (y : Nat → Bool), ∀ j, j < n → cs[j]? = some (mixed isB z y j) := by
  obtain ⟨xs, n', _, _, hl1, _, hf⟩ := DataW.trod_struct he h
  obtain ⟨g, hg⟩ := choose_lt (α := Int × Bool) (n := n) (p := fun j v => cs[j]? = some (if isB j then .bool v.2 else .int .i64 v.1)) (fun j hj => by
    obtain ⟨ti, e1, hc, hu⟩ := hfs j hj
    obtain ⟨fj, hfj, e2⟩ := Option.map_eq_some_iff.1 e1
    simp only [Prod.mk.injEq] at e2
    have e3 := hf j fj hfj
    rw [e2.1, e2.2, hc] at e3
    have hxs : j < xs.length := by
      rcases Nat.lt_or_ge j xs.length with h' | h'
      · exact h'
      · have := (Array.getElem?_eq_some_iff.1 hfj).1
        omega
    rw [List.getElem?_eq_getElem hxs] at e3
    have key : ∀ v : Value, (cs.drop j).take 1 = [v] → cs[j]? = some v := fun v hv => by
      have h0 : ((cs.drop j).take 1)[0]? = some v := by rw [hv]; rfl
      simpa using h0
    by_cases hB : isB j = true
    · rw [if_pos hB] at hu
      obtain ⟨v, hv, _⟩ := DataW.trod_bool hu e3
      exact ⟨(0, v), by rw [if_pos hB]; exact key _ hv⟩
    · rw [if_neg hB] at hu
      obtain ⟨v, hv, _, hw⟩ := DataW.trod_int hu e3
      exact ⟨(v, false), by rw [if_neg hB]; exact key _ hv⟩)
  exact ⟨fun j => (g j).1, fun j => (g j).2, fun j hj => hg j hj⟩
end

section
variable {H : Type} {enc : TypeId × Value → H} {w : World} {base : Nat} {held : Bool} {fuel : Nat} {a : Option Addr} {len cap : Nat} {x : DataW H × List MemPlace}

theorem act_of {cs : List Value} (h : DataW.trod enc Try.prog w base (fun _ => true) held fuel 36 cs = some x) : ∃ y : Ac, ∀ (j : Nat) (u : Value), y.cells[j]? = some u → cs[j]? = some u := by
  obtain ⟨xs, n', _, _, _, hl1, hf⟩ := DataW.trod_struct Try.underlying36 h
  have f0 : DataW.trod enc Try.prog w base (fun _ => true) held n' 3 ((cs.drop 0).take (Try.prog.cellsOf 3)) = xs[0]? := hf 0 _ rfl
  have f1 : DataW.trod enc Try.prog w base (fun _ => true) held n' 32 ((cs.drop 1).take (Try.prog.cellsOf 32)) = xs[1]? := hf 1 _ rfl
  have f2 : DataW.trod enc Try.prog w base (fun _ => true) held n' 34 ((cs.drop 4).take (Try.prog.cellsOf 34)) = xs[2]? := hf 2 _ rfl
  have hl : xs.length = 3 := hl1
  rw [List.getElem?_eq_getElem (by omega)] at f0
  rw [List.getElem?_eq_getElem (by omega)] at f1
  rw [List.getElem?_eq_getElem (by omega)] at f2
  have k0 : Try.prog.cellsOf 3 = 1 := by kernel_rfl
  have k1 : Try.prog.cellsOf 32 = 3 := by kernel_rfl
  have k2 : Try.prog.cellsOf 34 = 5 := by kernel_rfl
  rw [k0] at f0
  rw [k1] at f1
  rw [k2] at f2
  obtain ⟨v, hv, _, _⟩ := DataW.trod_int Try.underlying3 f0
  obtain ⟨z1, y1, h1⟩ := plain_cells (n := 3) (isB := fun _ => false) Try.underlying32 (by
    intro j hj
    rcases (by omega : j = 0 ∨ j = 1 ∨ j = 2) with rfl | rfl | rfl
    · exact ⟨_, rfl, by kernel_rfl, by kernel_rfl⟩
    · exact ⟨_, rfl, by kernel_rfl, by kernel_rfl⟩
    · exact ⟨_, rfl, by kernel_rfl, by kernel_rfl⟩) f1
  obtain ⟨z2, y2, h2⟩ := plain_cells (n := 5) (isB := fun j => j == 4) Try.underlying34 (by
    intro j hj
    rcases (by omega : j = 0 ∨ j = 1 ∨ j = 2 ∨ j = 3 ∨ j = 4) with rfl | rfl | rfl | rfl | rfl
    · exact ⟨_, rfl, by kernel_rfl, by kernel_rfl⟩
    · exact ⟨_, rfl, by kernel_rfl, by kernel_rfl⟩
    · exact ⟨_, rfl, by kernel_rfl, by kernel_rfl⟩
    · exact ⟨_, rfl, by kernel_rfl, by kernel_rfl⟩
    · exact ⟨_, rfl, by kernel_rfl, by kernel_rfl⟩) f2
  have g0 : cs[0]? = some (.int .i64 v) := by
    have h0 : ((cs.drop 0).take 1)[0]? = some (.int .i64 v) := by rw [hv]; rfl
    simpa using h0
  have g1 : ∀ j, j < 3 → cs[1 + j]? = some (.int .i64 (z1 j)) := fun j hj => by
    have := h1 j hj
    rw [List.getElem?_take] at this
    rw [if_pos hj, List.getElem?_drop] at this
    exact this
  have g2 : ∀ j, j < 5 → cs[4 + j]? = some (mixed (fun j => j == 4) z2 y2 j) := fun j hj => by
    have := h2 j hj
    rw [List.getElem?_take] at this
    rw [if_pos hj, List.getElem?_drop] at this
    exact this
  refine ⟨⟨v, ⟨z1 0, z1 1, z1 2⟩, ⟨z2 0, z2 1, z2 2, z2 3, y2 4⟩⟩, fun j u hu => ?_⟩
  have hj : j < 9 := (List.getElem?_eq_some_iff.1 hu).1
  rcases (by omega : j = 0 ∨ j = 1 ∨ j = 2 ∨ j = 3 ∨ j = 4 ∨ j = 5 ∨ j = 6 ∨ j = 7 ∨ j = 8) with rfl | rfl | rfl | rfl | rfl | rfl | rfl | rfl | rfl
  · exact g0.trans hu
  · exact (g1 0 (by omega)).trans hu
  · exact (g1 1 (by omega)).trans hu
  · exact (g1 2 (by omega)).trans hu
  · exact (g2 0 (by omega)).trans hu
  · exact (g2 1 (by omega)).trans hu
  · exact (g2 2 (by omega)).trans hu
  · exact (g2 3 (by omega)).trans hu
  · exact (g2 4 (by omega)).trans hu

/-- A slice of acts. -/
theorem isActs_of (h : DataW.trod enc Try.prog w base (fun _ => true) held fuel 22 (Value.slice a len cap).cells.toList = some x) : ∃ l : List Ac, len = l.length ∧ IsL Ac.cells w a l := by
  rcases open_slice Try.underlying22 h with ⟨hcs, _⟩ | ⟨c, l, m, k, f, D, Pl, hcs, _, hl, hm, hk, _, hel⟩
  · simp [Value.cells] at hcs
    obtain ⟨rfl, rfl, rfl⟩ := hcs
    exact ⟨[], rfl, .inl rfl⟩
  · simp [Value.cells] at hcs
    obtain ⟨rfl, rfl, rfl⟩ := hcs
    simp only [if_true] at hk
    subst hk
    have k9 : Try.prog.cellsOf 36 = 9 := by kernel_rfl
    rw [k9] at hel
    haveI : Inhabited Ac := ⟨⟨0, Rz, Oz⟩⟩
    obtain ⟨g, hg⟩ := choose_lt (α := Ac) (n := len) (p := fun i y => ∀ (j : Nat) (u : Value), y.cells[j]? = some u → w.cell? (c.add (i * 9 + j)) = some u) (fun i hi' => by
      obtain ⟨cs', h1, h2⟩ := hel i (by omega)
      obtain ⟨_, hlen, hcell⟩ := World.cells?_some h1
      obtain ⟨y, hy⟩ := act_of h2
      refine ⟨y, fun j u hu => ?_⟩
      rw [← add_add, hcell j (by have := (List.getElem?_eq_some_iff.1 hu).1; exact this)]
      exact hy j u hu)
    refine ⟨(List.range len).map g, by simp, ?_⟩
    by_cases h0 : len = 0
    · subst h0; exact .inl rfl
    · obtain ⟨b, off, hbo⟩ := plain_of (hg 0 (by omega) 0 _ rfl)
      have hb := World.block_lt_of_cell? _ _ (hg 0 (by omega) 0 _ rfl)
      have hc0 : c = ⟨b, off, none⟩ := by simpa [Addr.add] using hbo
      subst hc0
      refine .inr ⟨b, off, rfl, by simpa [Addr.add] using hb, fun j u hu => ?_⟩
      have hj : j < len * 9 := by have := (List.getElem?_eq_some_iff.1 hu).1; rw [rows_length alen] at this; simpa using this
      have hx : ((List.range len).map g)[j / 9]? = some (g (j / 9)) := by simp [show j / 9 < len by omega]
      have e1 : j / 9 * 9 + j % 9 = j := by omega
      have hu2 := rows_get alen _ _ (j % 9) _ hx (by omega)
      rw [e1] at hu2
      rw [← add_eq, ← e1]
      exact hg (j / 9) (by omega) (j % 9) u (hu2.symm.trans hu)
end
end Go.Proofs.Ytfkfobloamambaa.rd
