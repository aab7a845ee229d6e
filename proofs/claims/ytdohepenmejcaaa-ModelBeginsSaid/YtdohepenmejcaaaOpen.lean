/- What a walk is told of an argument that is a slice: of integers, of bools, of structs of integers. Plain facts on memory, of no program. -/
import Derived.WalkKit
import Derived.ProofKit
import Derived.OpenShut
import Derived.ShutString
import Derived.ChangeOld
import Derived.Below
import Derived.Deep.Grids
namespace Go.Proofs.Ytdohepenmejcaaa.base
open Go Go.RowKit Go.ChangeShapes Go.WideShapes Go.Deep

/-- A slice of integers: z tells its elements. -/
def IsRow (k : IntKind) (w : World) (a : Option Addr) (len cap : Nat) (z : Nat → Int) : Prop :=
  len ≤ cap ∧ cap ≤ maxLen ∧ (len = 0 ∨ ∃ b off, a = some ⟨b, off, none⟩ ∧ b < w.heap.size ∧ ∀ i, i < len → w.cell? ⟨b, off + i, none⟩ = some (.int k (z i)) ∧ (Lit.int k (z i)).wf = true)

/-- A slice of bools. -/
def IsBools (w : World) (a : Option Addr) (len cap : Nat) (z : Nat → Bool) : Prop :=
  len ≤ cap ∧ cap ≤ maxLen ∧ (len = 0 ∨ ∃ b off, a = some ⟨b, off, none⟩ ∧ b < w.heap.size ∧ ∀ i, i < len → w.cell? ⟨b, off + i, none⟩ = some (.bool (z i)))

/-- A slice of structs of n numbers of kind int: z i j is the field j of element i. -/
def IsInts (n : Nat) (w : World) (a : Option Addr) (len cap : Nat) (z : Nat → Nat → Int) : Prop :=
  len ≤ cap ∧ cap ≤ maxLen ∧ (len = 0 ∨ ∃ b off, a = some ⟨b, off, none⟩ ∧ b < w.heap.size ∧ ∀ i j, i < len → j < n → w.cell? ⟨b, off + (i * n + j), none⟩ = some (.int .i64 (z i j)) ∧ (Lit.int .i64 (z i j)).wf = true)

theorem IsRow.below {k : IntKind} {w w' : World} {a : Option Addr} {len cap : Nat} {z : Nat → Int} (h : IsRow k w a len cap z) (g : Below w.heap.size w w') : IsRow k w' a len cap z := by
  obtain ⟨q1, q2, q3⟩ := h
  refine ⟨q1, q2, ?_⟩
  rcases q3 with q3 | ⟨b, off, rfl, hb, hc⟩
  · exact .inl q3
  · exact .inr ⟨b, off, rfl, Nat.lt_of_lt_of_le hb g.size, fun i hi => ⟨(g.cell (p := ⟨b, off + i, none⟩) hb).trans (hc i hi).1, (hc i hi).2⟩⟩

section
variable {H : Type} {enc : TypeId × Value → H} {P : Program} {w : World} {base : Nat} {held : Bool} {t e : TypeId} {fuel : Nat} {a : Option Addr} {len cap : Nat} {x : DataW H × List MemPlace}

theorem add_eq (b off i : Nat) : (⟨b, off, none⟩ : Addr).add i = ⟨b, off + i, none⟩ := by
  unfold Addr.add
  split
  · next h => subst h; rfl
  · rfl

theorem plain_of {c : Addr} {v : Value} (h : w.cell? c = some v) : ∃ b off, c = ⟨b, off, none⟩ := by
  obtain ⟨b, off, spot⟩ := c
  have hs : spot = none := World.cell?_spot h
  exact ⟨b, off, by rw [hs]⟩

theorem isRow_of {k : IntKind} (ht : P.underlying t = some (.slice e)) (he : P.underlying e = some (.int k)) (hc : P.cellsOf e = 1) (h : DataW.trod enc P w base (fun _ => true) held fuel t (Value.slice a len cap).cells.toList = some x) : ∃ z, IsRow k w a len cap z := by
  rcases open_ints ht he hc h with ⟨hcs, _⟩ | ⟨c, l, m, zs, hcs, _, hl, hm, hz, _, hcell, hwz⟩
  · simp [Value.cells] at hcs
    obtain ⟨rfl, rfl, rfl⟩ := hcs
    exact ⟨fun _ => 0, Nat.le_refl _, Nat.zero_le _, .inl rfl⟩
  · simp [Value.cells] at hcs
    obtain ⟨rfl, rfl, rfl⟩ := hcs
    simp only [if_true] at hz
    refine ⟨fun i => zs.getD i 0, hl, hm, ?_⟩
    by_cases h0 : len = 0
    · exact .inl h0
    · obtain ⟨b, off, rfl⟩ := plain_of (hcell 0 (by omega))
      have hb := World.block_lt_of_cell? _ _ (hcell 0 (by omega))
      refine .inr ⟨b, off, rfl, by simpa [Addr.add] using hb, fun i hi => ⟨by rw [← add_eq]; exact hcell i (by omega), hwz _ ?_⟩⟩
      simp only [List.getD]
      rw [List.getElem?_eq_getElem (by omega)]
      exact List.getElem_mem _

theorem isBools_of (ht : P.underlying t = some (.slice e)) (he : P.underlying e = some .bool) (hc : P.cellsOf e = 1) (h : DataW.trod enc P w base (fun _ => true) held fuel t (Value.slice a len cap).cells.toList = some x) : ∃ z, IsBools w a len cap z := by
  rcases open_bools ht he hc h with ⟨hcs, _⟩ | ⟨c, l, m, B, hcs, _, hl, hm, _, hcell⟩
  · simp [Value.cells] at hcs
    obtain ⟨rfl, rfl, rfl⟩ := hcs
    exact ⟨fun _ => false, Nat.le_refl _, Nat.zero_le _, .inl rfl⟩
  · simp [Value.cells] at hcs
    obtain ⟨rfl, rfl, rfl⟩ := hcs
    refine ⟨B, hl, hm, ?_⟩
    by_cases h0 : len = 0
    · exact .inl h0
    · obtain ⟨b, off, rfl⟩ := plain_of (hcell 0 (by omega))
      have hb := World.block_lt_of_cell? _ _ (hcell 0 (by omega))
      exact .inr ⟨b, off, rfl, by simpa [Addr.add] using hb, fun i hi => by rw [← add_eq]; exact hcell i (by omega)⟩

theorem isInts_of {fs : Array Field} {ti : TypeId} {n : Nat} (ht : P.underlying t = some (.slice e)) (he : P.underlying e = some (.struct fs)) (hi : P.underlying ti = some (.int .i64)) (hci : P.cellsOf ti = 1) (hc : P.cellsOf e = n) (hn : 0 < n) (hfs : ∀ j, j < n → (fs[j]?.map fun f => (f.offset, f.type)) = some (j, ti))
    (h : DataW.trod enc P w base (fun _ => true) held fuel t (Value.slice a len cap).cells.toList = some x) : ∃ z, IsInts n w a len cap z := by
  rcases open_slice ht h with ⟨hcs, _⟩ | ⟨c, l, m, k, f, D, Pl, hcs, _, hl, hm, hk, _, hel⟩
  · simp [Value.cells] at hcs
    obtain ⟨rfl, rfl, rfl⟩ := hcs
    exact ⟨fun _ _ => 0, Nat.le_refl _, Nat.zero_le _, .inl rfl⟩
  · simp [Value.cells] at hcs
    obtain ⟨rfl, rfl, rfl⟩ := hcs
    simp only [if_true] at hk
    subst hk
    rw [hc] at hel
    have each : ∀ i, i < len → ∃ g : Nat → Int, ∀ j, j < n → w.cell? (c.add (i * n + j)) = some (.int .i64 (g j)) ∧ (Lit.int .i64 (g j)).wf = true := by
      intro i hi'
      obtain ⟨cs', h1, h2⟩ := hel i (by omega)
      obtain ⟨_, hlen, hcell⟩ := World.cells?_some h1
      obtain ⟨xs, n', _, _, hl1, _, hf⟩ := DataW.trod_struct he h2
      obtain ⟨g, hg⟩ := choose_lt (α := Int) (n := n) (p := fun j v => cs'[j]? = some (.int .i64 v) ∧ (Lit.int .i64 v).wf = true) (fun j hj => by
        have e1 := hfs j hj
        obtain ⟨fj, hfj, e2⟩ := Option.map_eq_some_iff.1 e1
        simp only [Prod.mk.injEq] at e2
        have e3 := hf j fj hfj
        rw [e2.1, e2.2, hci] at e3
        have hxs : j < xs.length := by
          rcases Nat.lt_or_ge j xs.length with h' | h'
          · exact h'
          · rename_i hsz
            have := (Array.getElem?_eq_some_iff.1 hfj).1
            omega
        rw [List.getElem?_eq_getElem hxs] at e3
        obtain ⟨v, hv, _, hw⟩ := DataW.trod_int hi e3
        refine ⟨v, ?_, hw⟩
        have : (cs'.drop j).take 1 = [.int .i64 v] := by simpa using hv
        have h0 : ((cs'.drop j).take 1)[0]? = some (.int .i64 v) := by rw [this]; rfl
        simpa using h0)
      refine ⟨g, fun j hj => ⟨?_, (hg j hj).2⟩⟩
      rw [← add_add, hcell j hj]
      exact (hg j hj).1
    obtain ⟨z, hz⟩ := choose_lt (α := Nat → Int) each
    refine ⟨z, hl, hm, ?_⟩
    by_cases h0 : len = 0
    · exact .inl h0
    · obtain ⟨b, off, hbo⟩ := plain_of (hz 0 (by omega) 0 (by omega)).1
      have hb := World.block_lt_of_cell? _ _ (hz 0 (by omega) 0 (by omega)).1
      have hc0 : c = ⟨b, off, none⟩ := by simpa [Addr.add] using hbo
      subst hc0
      refine .inr ⟨b, off, rfl, by simpa [Addr.add] using hb, fun i j hi hj => ⟨by rw [← add_eq]; exact (hz i hi j hj).1, (hz i hi j hj).2⟩⟩

/-- .. of structs whose fields are of two integer types (int and int64, say). -/
theorem isMixed_of {fs : Array Field} {t1 t2 : TypeId} {n : Nat} (ht : P.underlying t = some (.slice e)) (he : P.underlying e = some (.struct fs)) (hi1 : P.underlying t1 = some (.int .i64)) (hi2 : P.underlying t2 = some (.int .i64)) (hc1 : P.cellsOf t1 = 1) (hc2 : P.cellsOf t2 = 1) (hc : P.cellsOf e = n) (hn : 0 < n) (hfs : ∀ j, j < n → (fs[j]?.map fun f => (f.offset, f.type)) = some (j, t1) ∨ (fs[j]?.map fun f => (f.offset, f.type)) = some (j, t2))
    (h : DataW.trod enc P w base (fun _ => true) held fuel t (Value.slice a len cap).cells.toList = some x) : ∃ z, IsInts n w a len cap z := by
  rcases open_slice ht h with ⟨hcs, _⟩ | ⟨c, l, m, k, f, D, Pl, hcs, _, hl, hm, hk, _, hel⟩
  · simp [Value.cells] at hcs
    obtain ⟨rfl, rfl, rfl⟩ := hcs
    exact ⟨fun _ _ => 0, Nat.le_refl _, Nat.zero_le _, .inl rfl⟩
  · simp [Value.cells] at hcs
    obtain ⟨rfl, rfl, rfl⟩ := hcs
    simp only [if_true] at hk
    subst hk
    rw [hc] at hel
    have each : ∀ i, i < len → ∃ g : Nat → Int, ∀ j, j < n → w.cell? (c.add (i * n + j)) = some (.int .i64 (g j)) ∧ (Lit.int .i64 (g j)).wf = true := by
      intro i hi'
      obtain ⟨cs', h1, h2⟩ := hel i (by omega)
      obtain ⟨_, hlen, hcell⟩ := World.cells?_some h1
      obtain ⟨xs, n', _, _, hl1, _, hf⟩ := DataW.trod_struct he h2
      obtain ⟨g, hg⟩ := choose_lt (α := Int) (n := n) (p := fun j v => cs'[j]? = some (.int .i64 v) ∧ (Lit.int .i64 v).wf = true) (fun j hj => by
        obtain ⟨ti, e1, hi, hci⟩ : ∃ ti, (fs[j]?.map fun f => (f.offset, f.type)) = some (j, ti) ∧ P.underlying ti = some (.int .i64) ∧ P.cellsOf ti = 1 := by
          rcases hfs j hj with e | e
          · exact ⟨_, e, hi1, hc1⟩
          · exact ⟨_, e, hi2, hc2⟩
        obtain ⟨fj, hfj, e2⟩ := Option.map_eq_some_iff.1 e1
        simp only [Prod.mk.injEq] at e2
        have e3 := hf j fj hfj
        rw [e2.1, e2.2, hci] at e3
        have hxs : j < xs.length := by
          rcases Nat.lt_or_ge j xs.length with h' | h'
          · exact h'
          · rename_i hsz
            have := (Array.getElem?_eq_some_iff.1 hfj).1
            omega
        rw [List.getElem?_eq_getElem hxs] at e3
        obtain ⟨v, hv, _, hw⟩ := DataW.trod_int hi e3
        refine ⟨v, ?_, hw⟩
        have : (cs'.drop j).take 1 = [.int .i64 v] := by simpa using hv
        have h0 : ((cs'.drop j).take 1)[0]? = some (.int .i64 v) := by rw [this]; rfl
        simpa using h0)
      refine ⟨g, fun j hj => ⟨?_, (hg j hj).2⟩⟩
      rw [← add_add, hcell j hj]
      exact (hg j hj).1
    obtain ⟨z, hz⟩ := choose_lt (α := Nat → Int) each
    refine ⟨z, hl, hm, ?_⟩
    by_cases h0 : len = 0
    · exact .inl h0
    · obtain ⟨b, off, hbo⟩ := plain_of (hz 0 (by omega) 0 (by omega)).1
      have hb := World.block_lt_of_cell? _ _ (hz 0 (by omega) 0 (by omega)).1
      have hc0 : c = ⟨b, off, none⟩ := by simpa [Addr.add] using hbo
      subst hc0
      refine .inr ⟨b, off, rfl, by simpa [Addr.add] using hb, fun i j hi hj => ⟨by rw [← add_eq]; exact (hz i hi j hj).1, (hz i hi j hj).2⟩⟩

/-- A struct by value, of n numbers of two integer types. -/
theorem isAgg_of {fs : Array Field} {t1 t2 : TypeId} {n : Nat} {cs : Array Value} (he : P.underlying t = some (.struct fs)) (hi1 : P.underlying t1 = some (.int .i64)) (hi2 : P.underlying t2 = some (.int .i64)) (hc1 : P.cellsOf t1 = 1) (hc2 : P.cellsOf t2 = 1) (hsz : cs.size = n)
    (hfs : ∀ j, j < n → (fs[j]?.map fun f => (f.offset, f.type)) = some (j, t1) ∨ (fs[j]?.map fun f => (f.offset, f.type)) = some (j, t2))
    (h : DataW.trod enc P w base (fun _ => true) held fuel t (Value.agg cs).cells.toList = some x) : ∃ z : Nat → Int, (∀ j, j < n → (Lit.int .i64 (z j)).wf = true) ∧ cs = ⟨(List.range n).map fun j => .int .i64 (z j)⟩ := by
  obtain ⟨xs, n', _, _, hl1, _, hf⟩ := DataW.trod_struct he h
  obtain ⟨g, hg⟩ := choose_lt (α := Int) (n := n) (p := fun j v => cs.toList[j]? = some (.int .i64 v) ∧ (Lit.int .i64 v).wf = true) (fun j hj => by
    obtain ⟨ti, e1, hi, hci⟩ : ∃ ti, (fs[j]?.map fun f => (f.offset, f.type)) = some (j, ti) ∧ P.underlying ti = some (.int .i64) ∧ P.cellsOf ti = 1 := by
      rcases hfs j hj with e | e
      · exact ⟨_, e, hi1, hc1⟩
      · exact ⟨_, e, hi2, hc2⟩
    obtain ⟨fj, hfj, e2⟩ := Option.map_eq_some_iff.1 e1
    simp only [Prod.mk.injEq] at e2
    have e3 := hf j fj hfj
    rw [e2.1, e2.2, hci] at e3
    have hxs : j < xs.length := by
      rcases Nat.lt_or_ge j xs.length with h' | h'
      · exact h'
      · have := (Array.getElem?_eq_some_iff.1 hfj).1
        omega
    rw [List.getElem?_eq_getElem hxs] at e3
    obtain ⟨v, hv, _, hw⟩ := DataW.trod_int hi e3
    refine ⟨v, ?_, hw⟩
    have : ((Value.agg cs).cells.toList.drop j).take 1 = [.int .i64 v] := by simpa using hv
    have h0 : (((Value.agg cs).cells.toList.drop j).take 1)[0]? = some (.int .i64 v) := by rw [this]; rfl
    simpa [Value.cells] using h0)
  refine ⟨g, fun j hj => (hg j hj).2, ?_⟩
  apply Array.ext'
  apply List.ext_getElem?
  intro j
  by_cases hj : j < n
  · rw [(hg j hj).1]
    simp [hj]
  · rw [List.getElem?_eq_none (by simpa [hsz] using hj), List.getElem?_eq_none (by simpa using hj)]

/-- A slice of arrays of n numbers. -/
theorem isArrs_of {ti : TypeId} {n : Nat} (ht : P.underlying t = some (.slice e)) (he : P.underlying e = some (.array n ti)) (hi : P.underlying ti = some (.int .i64)) (hci : P.cellsOf ti = 1) (hc : P.cellsOf e = n) (hn : 0 < n)
    (h : DataW.trod enc P w base (fun _ => true) held fuel t (Value.slice a len cap).cells.toList = some x) : ∃ z, IsInts n w a len cap z := by
  rcases open_slice ht h with ⟨hcs, _⟩ | ⟨c, l, m, k, f, D, Pl, hcs, _, hl, hm, hk, _, hel⟩
  · simp [Value.cells] at hcs
    obtain ⟨rfl, rfl, rfl⟩ := hcs
    exact ⟨fun _ _ => 0, Nat.le_refl _, Nat.zero_le _, .inl rfl⟩
  · simp [Value.cells] at hcs
    obtain ⟨rfl, rfl, rfl⟩ := hcs
    simp only [if_true] at hk
    subst hk
    rw [hc] at hel
    have each : ∀ i, i < len → ∃ g : Nat → Int, ∀ j, j < n → w.cell? (c.add (i * n + j)) = some (.int .i64 (g j)) ∧ (Lit.int .i64 (g j)).wf = true := by
      intro i hi'
      obtain ⟨cs', h1, h2⟩ := hel i (by omega)
      obtain ⟨_, hlen, hcell⟩ := World.cells?_some h1
      obtain ⟨xs, n', _, _, _, hl1, hf⟩ := DataW.trod_array he h2
      obtain ⟨g, hg⟩ := choose_lt (α := Int) (n := n) (p := fun j v => cs'[j]? = some (.int .i64 v) ∧ (Lit.int .i64 v).wf = true) (fun j hj => by
        have e3 := hf j hj
        rw [hci] at e3
        rw [List.getElem?_eq_getElem (by omega)] at e3
        obtain ⟨v, hv, _, hw⟩ := DataW.trod_int hi e3
        refine ⟨v, ?_, hw⟩
        have : (cs'.drop j).take 1 = [.int .i64 v] := by simpa using hv
        have h0 : ((cs'.drop j).take 1)[0]? = some (.int .i64 v) := by rw [this]; rfl
        simpa using h0)
      refine ⟨g, fun j hj => ⟨?_, (hg j hj).2⟩⟩
      rw [← add_add, hcell j hj]
      exact (hg j hj).1
    obtain ⟨z, hz⟩ := choose_lt (α := Nat → Int) each
    refine ⟨z, hl, hm, ?_⟩
    by_cases h0 : len = 0
    · exact .inl h0
    · obtain ⟨b, off, hbo⟩ := plain_of (hz 0 (by omega) 0 (by omega)).1
      have hb := World.block_lt_of_cell? _ _ (hz 0 (by omega) 0 (by omega)).1
      have hc0 : c = ⟨b, off, none⟩ := by simpa [Addr.add] using hbo
      subst hc0
      refine .inr ⟨b, off, rfl, by simpa [Addr.add] using hb, fun i j hi hj => ⟨by rw [← add_eq]; exact (hz i hi j hj).1, (hz i hi j hj).2⟩⟩
end
end Go.Proofs.Ytdohepenmejcaaa.base
