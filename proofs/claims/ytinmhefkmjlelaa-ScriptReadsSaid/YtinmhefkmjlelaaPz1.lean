/- Texts of one's own, one behind the other: Open, OpenB, Base, Grow, LangM, NaS, ScM, Sa, Own, Lang, LangB, App, RdM, ScA, ScG, ScL, Vals, Lop, Get, RefGet, GetR, Put, Str, LqA. -/
import Derived.Test.YtinmhefkmjlelaaProg
import Derived.WalkKit
import Derived.ProofKit
import Derived.OpenShut
import Derived.ShutString
import Derived.ChangeOld
import Derived.Below
import Derived.Deep.Grids
import Derived.ChangeArms
import Derived.Handy
import Derived.Lib.Hide
import Derived.BigQuiet
import Derived.Deep.QuietTactic
import Derived.ArgAppend
import Derived.Deep.RegionLaw
import Derived.Deep.AppendSrc
import Derived.Deep.Upon
import Derived.Deep.RegionHeld
import Derived.Deep.CutRange
import Derived.Deep.DeepCutAuto
import Derived.IntWalk
import Derived.Laws.StructEq
import Derived.Laws.Tables
import Derived.Deep.RegionHeld3
import Derived.Laws.BytesString
import Derived.Laws.Concat
import Derived.BigRegion
/- What a walk is told of an argument that is a slice: of integers, of bools, of structs of integers. Plain facts on memory, of no program. -/
namespace Go.Proofs.Ytinmhefkmjlelaa.base
open Go Go.RowKit Go.ChangeShapes Go.WideShapes Go.Deep

/-- A slice of integers: z tells its elements. -/
def IsRow (k : IntKind) (w : World) (a : Option Addr) (len cap : Nat) (z : Nat → Int) : Prop :=
  len ≤ cap ∧ cap ≤ maxLen ∧ (len = 0 ∨ ∃ b off, a = some ⟨b, off, none⟩ ∧ b < w.heap.size ∧ ∀ i, i < len → w.cell? ⟨b, off + i, none⟩ = some (.int k (z i)) ∧ (Lit.int k (z i)).wf = true)

/-- A slice of bools. -/
def IsBools (w : World) (a : Option Addr) (len cap : Nat) (z : Nat → Bool) : Prop :=
  len ≤ cap ∧ cap ≤ maxLen ∧ (len = 0 ∨ ∃ b off, a = some ⟨b, off, none⟩ ∧ b < w.heap.size ∧ ∀ i, i < len → w.cell? ⟨b, off + i, none⟩ = some (.bool (z i)))

/-- A slice of structs of n numbers of kind int: z i j is the field j of element i. -/
def IsInts (n : Nat) (w : World) (a : Option Addr) (len cap : Nat) (z : Nat → Nat → Int) : Prop :=
  len ≤ cap ∧ cap ≤ maxLen ∧ (len = 0 ∨ ∃ b off, a = some ⟨b, off, none⟩ ∧ b < w.heap.size ∧ ∀ i j, i < len → j < n → w.cell? ⟨b, off + (i * n + j), none⟩ = some (.int .i64 (z i j)) ∧ (Lit.int .i64 (z i j)).wf = true)

theorem IsRow.below {k : IntKind} {w w' : World} {a : Option Addr} {len cap : Nat} {z : Nat → Int} (h : IsRow k w a len cap z) (g : Below w.heap.size w w') : IsRow k w' a len cap z := by
  obtain ⟨q1, q2, q3⟩ := h
  refine ⟨q1, q2, ?_⟩
  rcases q3 with q3 | ⟨b, off, rfl, hb, hc⟩
  · exact .inl q3
  · exact .inr ⟨b, off, rfl, Nat.lt_of_lt_of_le hb g.size, fun i hi => ⟨(g.cell (p := ⟨b, off + i, none⟩) hb).trans (hc i hi).1, (hc i hi).2⟩⟩

section
variable {H : Type} {enc : TypeId × Value → H} {P : Program} {w : World} {base : Nat} {held : Bool} {t e : TypeId} {fuel : Nat} {a : Option Addr} {len cap : Nat} {x : DataW H × List MemPlace}

theorem add_eq (b off i : Nat) : (⟨b, off, none⟩ : Addr).add i = ⟨b, off + i, none⟩ := by
  unfold Addr.add
  split
  · next h => subst h; rfl
  · rfl

theorem plain_of {c : Addr} {v : Value} (h : w.cell? c = some v) : ∃ b off, c = ⟨b, off, none⟩ := by
  obtain ⟨b, off, spot⟩ := c
  have hs : spot = none := World.cell?_spot h
  exact ⟨b, off, by rw [hs]⟩

theorem isRow_of {k : IntKind} (ht : P.underlying t = some (.slice e)) (he : P.underlying e = some (.int k)) (hc : P.cellsOf e = 1) (h : DataW.trod enc P w base (fun _ => true) held fuel t (Value.slice a len cap).cells.toList = some x) : ∃ z, IsRow k w a len cap z := by
  rcases open_ints ht he hc h with ⟨hcs, _⟩ | ⟨c, l, m, zs, hcs, _, hl, hm, hz, _, hcell, hwz⟩
  · simp [Value.cells] at hcs
    obtain ⟨rfl, rfl, rfl⟩ := hcs
    exact ⟨fun _ => 0, Nat.le_refl _, Nat.zero_le _, .inl rfl⟩
  · simp [Value.cells] at hcs
    obtain ⟨rfl, rfl, rfl⟩ := hcs
    simp only [if_true] at hz
    refine ⟨fun i => zs.getD i 0, hl, hm, ?_⟩
    by_cases h0 : len = 0
    · exact .inl h0
    · obtain ⟨b, off, rfl⟩ := plain_of (hcell 0 (by omega))
      have hb := World.block_lt_of_cell? _ _ (hcell 0 (by omega))
      refine .inr ⟨b, off, rfl, by simpa [Addr.add] using hb, fun i hi => ⟨by rw [← add_eq]; exact hcell i (by omega), hwz _ ?_⟩⟩
      simp only [List.getD]
      rw [List.getElem?_eq_getElem (by omega)]
      exact List.getElem_mem _

theorem isBools_of (ht : P.underlying t = some (.slice e)) (he : P.underlying e = some .bool) (hc : P.cellsOf e = 1) (h : DataW.trod enc P w base (fun _ => true) held fuel t (Value.slice a len cap).cells.toList = some x) : ∃ z, IsBools w a len cap z := by
  rcases open_bools ht he hc h with ⟨hcs, _⟩ | ⟨c, l, m, B, hcs, _, hl, hm, _, hcell⟩
  · simp [Value.cells] at hcs
    obtain ⟨rfl, rfl, rfl⟩ := hcs
    exact ⟨fun _ => false, Nat.le_refl _, Nat.zero_le _, .inl rfl⟩
  · simp [Value.cells] at hcs
    obtain ⟨rfl, rfl, rfl⟩ := hcs
    refine ⟨B, hl, hm, ?_⟩
    by_cases h0 : len = 0
    · exact .inl h0
    · obtain ⟨b, off, rfl⟩ := plain_of (hcell 0 (by omega))
      have hb := World.block_lt_of_cell? _ _ (hcell 0 (by omega))
      exact .inr ⟨b, off, rfl, by simpa [Addr.add] using hb, fun i hi => by rw [← add_eq]; exact hcell i (by omega)⟩

theorem isInts_of {fs : Array Field} {ti : TypeId} {n : Nat} (ht : P.underlying t = some (.slice e)) (he : P.underlying e = some (.struct fs)) (hi : P.underlying ti = some (.int .i64)) (hci : P.cellsOf ti = 1) (hc : P.cellsOf e = n) (hn : 0 < n) (hfs : ∀ j, j < n → (fs[j]?.map fun f => (f.offset, f.type)) = some (j, ti))
    (h : DataW.trod enc P w base (fun _ => true) held fuel t (Value.slice a len cap).cells.toList = some x) : ∃ z, IsInts n w a len cap z := by
  rcases open_slice ht h with ⟨hcs, _⟩ | ⟨c, l, m, k, f, D, Pl, hcs, _, hl, hm, hk, _, hel⟩
  · simp [Value.cells] at hcs
    obtain ⟨rfl, rfl, rfl⟩ := hcs
    exact ⟨fun _ _ => 0, Nat.le_refl _, Nat.zero_le _, .inl rfl⟩
  · simp [Value.cells] at hcs
    obtain ⟨rfl, rfl, rfl⟩ := hcs
    simp only [if_true] at hk
    subst hk
    rw [hc] at hel
    have each : ∀ i, i < len → ∃ g : Nat → Int, ∀ j, j < n → w.cell? (c.add (i * n + j)) = some (.int .i64 (g j)) ∧ (Lit.int .i64 (g j)).wf = true := by
      intro i hi'
      obtain ⟨cs', h1, h2⟩ := hel i (by omega)
      obtain ⟨_, hlen, hcell⟩ := World.cells?_some h1
      obtain ⟨xs, n', _, _, hl1, _, hf⟩ := DataW.trod_struct he h2
      obtain ⟨g, hg⟩ := choose_lt (α := Int) (n := n) (p := fun j v => cs'[j]? = some (.int .i64 v) ∧ (Lit.int .i64 v).wf = true) (fun j hj => by
        have e1 := hfs j hj
        obtain ⟨fj, hfj, e2⟩ := Option.map_eq_some_iff.1 e1
        simp only [Prod.mk.injEq] at e2
        have e3 := hf j fj hfj
        rw [e2.1, e2.2, hci] at e3
        have hxs : j < xs.length := by
          rcases Nat.lt_or_ge j xs.length with h' | h'
          · exact h'
          · rename_i hsz
            have := (Array.getElem?_eq_some_iff.1 hfj).1
            omega
        rw [List.getElem?_eq_getElem hxs] at e3
        obtain ⟨v, hv, _, hw⟩ := DataW.trod_int hi e3
        refine ⟨v, ?_, hw⟩
        have : (cs'.drop j).take 1 = [.int .i64 v] := by simpa using hv
        have h0 : ((cs'.drop j).take 1)[0]? = some (.int .i64 v) := by rw [this]; rfl
        simpa using h0)
      refine ⟨g, fun j hj => ⟨?_, (hg j hj).2⟩⟩
      rw [← add_add, hcell j hj]
      exact (hg j hj).1
    obtain ⟨z, hz⟩ := choose_lt (α := Nat → Int) each
    refine ⟨z, hl, hm, ?_⟩
    by_cases h0 : len = 0
    · exact .inl h0
    · obtain ⟨b, off, hbo⟩ := plain_of (hz 0 (by omega) 0 (by omega)).1
      have hb := World.block_lt_of_cell? _ _ (hz 0 (by omega) 0 (by omega)).1
      have hc0 : c = ⟨b, off, none⟩ := by simpa [Addr.add] using hbo
      subst hc0
      refine .inr ⟨b, off, rfl, by simpa [Addr.add] using hb, fun i j hi hj => ⟨by rw [← add_eq]; exact (hz i hi j hj).1, (hz i hi j hj).2⟩⟩

/-- .. of structs whose fields are of two integer types (int and int64, say). -/
theorem isMixed_of {fs : Array Field} {t1 t2 : TypeId} {n : Nat} (ht : P.underlying t = some (.slice e)) (he : P.underlying e = some (.struct fs)) (hi1 : P.underlying t1 = some (.int .i64)) (hi2 : P.underlying t2 = some (.int .i64)) (hc1 : P.cellsOf t1 = 1) (hc2 : P.cellsOf t2 = 1) (hc : P.cellsOf e = n) (hn : 0 < n) (hfs : ∀ j, j < n → (fs[j]?.map fun f => (f.offset, f.type)) = some (j, t1) ∨ (fs[j]?.map fun f => (f.offset, f.type)) = some (j, t2))
    (h : DataW.trod enc P w base (fun _ => true) held fuel t (Value.slice a len cap).cells.toList = some x) : ∃ z, IsInts n w a len cap z := by
  rcases open_slice ht h with ⟨hcs, _⟩ | ⟨c, l, m, k, f, D, Pl, hcs, _, hl, hm, hk, _, hel⟩
  · simp [Value.cells] at hcs
    obtain ⟨rfl, rfl, rfl⟩ := hcs
    exact ⟨fun _ _ => 0, Nat.le_refl _, Nat.zero_le _, .inl rfl⟩
  · simp [Value.cells] at hcs
    obtain ⟨rfl, rfl, rfl⟩ := hcs
    simp only [if_true] at hk
    subst hk
    rw [hc] at hel
    have each : ∀ i, i < len → ∃ g : Nat → Int, ∀ j, j < n → w.cell? (c.add (i * n + j)) = some (.int .i64 (g j)) ∧ (Lit.int .i64 (g j)).wf = true := by
      intro i hi'
      obtain ⟨cs', h1, h2⟩ := hel i (by omega)
      obtain ⟨_, hlen, hcell⟩ := World.cells?_some h1
      obtain ⟨xs, n', _, _, hl1, _, hf⟩ := DataW.trod_struct he h2
      obtain ⟨g, hg⟩ := choose_lt (α := Int) (n := n) (p := fun j v => cs'[j]? = some (.int .i64 v) ∧ (Lit.int .i64 v).wf = true) (fun j hj => by
        obtain ⟨ti, e1, hi, hci⟩ : ∃ ti, (fs[j]?.map fun f => (f.offset, f.type)) = some (j, ti) ∧ P.underlying ti = some (.int .i64) ∧ P.cellsOf ti = 1 := by
          rcases hfs j hj with e | e
          · exact ⟨_, e, hi1, hc1⟩
          · exact ⟨_, e, hi2, hc2⟩
        obtain ⟨fj, hfj, e2⟩ := Option.map_eq_some_iff.1 e1
        simp only [Prod.mk.injEq] at e2
        have e3 := hf j fj hfj
        rw [e2.1, e2.2, hci] at e3
        have hxs : j < xs.length := by
          rcases Nat.lt_or_ge j xs.length with h' | h'
          · exact h'
          · rename_i hsz
            have := (Array.getElem?_eq_some_iff.1 hfj).1
            omega
        rw [List.getElem?_eq_getElem hxs] at e3
        obtain ⟨v, hv, _, hw⟩ := DataW.trod_int hi e3
        refine ⟨v, ?_, hw⟩
        have : (cs'.drop j).take 1 = [.int .i64 v] := by simpa using hv
        have h0 : ((cs'.drop j).take 1)[0]? = some (.int .i64 v) := by rw [this]; rfl
        simpa using h0)
      refine ⟨g, fun j hj => ⟨?_, (hg j hj).2⟩⟩
      rw [← add_add, hcell j hj]
      exact (hg j hj).1
    obtain ⟨z, hz⟩ := choose_lt (α := Nat → Int) each
    refine ⟨z, hl, hm, ?_⟩
    by_cases h0 : len = 0
    · exact .inl h0
    · obtain ⟨b, off, hbo⟩ := plain_of (hz 0 (by omega) 0 (by omega)).1
      have hb := World.block_lt_of_cell? _ _ (hz 0 (by omega) 0 (by omega)).1
      have hc0 : c = ⟨b, off, none⟩ := by simpa [Addr.add] using hbo
      subst hc0
      refine .inr ⟨b, off, rfl, by simpa [Addr.add] using hb, fun i j hi hj => ⟨by rw [← add_eq]; exact (hz i hi j hj).1, (hz i hi j hj).2⟩⟩

/-- A struct by value, of n numbers of two integer types. -/
theorem isAgg_of {fs : Array Field} {t1 t2 : TypeId} {n : Nat} {cs : Array Value} (he : P.underlying t = some (.struct fs)) (hi1 : P.underlying t1 = some (.int .i64)) (hi2 : P.underlying t2 = some (.int .i64)) (hc1 : P.cellsOf t1 = 1) (hc2 : P.cellsOf t2 = 1) (hsz : cs.size = n)
    (hfs : ∀ j, j < n → (fs[j]?.map fun f => (f.offset, f.type)) = some (j, t1) ∨ (fs[j]?.map fun f => (f.offset, f.type)) = some (j, t2))
    (h : DataW.trod enc P w base (fun _ => true) held fuel t (Value.agg cs).cells.toList = some x) : ∃ z : Nat → Int, (∀ j, j < n → (Lit.int .i64 (z j)).wf = true) ∧ cs = ⟨(List.range n).map fun j => .int .i64 (z j)⟩ := by
  obtain ⟨xs, n', _, _, hl1, _, hf⟩ := DataW.trod_struct he h
  obtain ⟨g, hg⟩ := choose_lt (α := Int) (n := n) (p := fun j v => cs.toList[j]? = some (.int .i64 v) ∧ (Lit.int .i64 v).wf = true) (fun j hj => by
    obtain ⟨ti, e1, hi, hci⟩ : ∃ ti, (fs[j]?.map fun f => (f.offset, f.type)) = some (j, ti) ∧ P.underlying ti = some (.int .i64) ∧ P.cellsOf ti = 1 := by
      rcases hfs j hj with e | e
      · exact ⟨_, e, hi1, hc1⟩
      · exact ⟨_, e, hi2, hc2⟩
    obtain ⟨fj, hfj, e2⟩ := Option.map_eq_some_iff.1 e1
    simp only [Prod.mk.injEq] at e2
    have e3 := hf j fj hfj
    rw [e2.1, e2.2, hci] at e3
    have hxs : j < xs.length := by
      rcases Nat.lt_or_ge j xs.length with h' | h'
      · exact h'
      · have := (Array.getElem?_eq_some_iff.1 hfj).1
        omega
    rw [List.getElem?_eq_getElem hxs] at e3
    obtain ⟨v, hv, _, hw⟩ := DataW.trod_int hi e3
    refine ⟨v, ?_, hw⟩
    have : ((Value.agg cs).cells.toList.drop j).take 1 = [.int .i64 v] := by simpa using hv
    have h0 : (((Value.agg cs).cells.toList.drop j).take 1)[0]? = some (.int .i64 v) := by rw [this]; rfl
    simpa [Value.cells] using h0)
  refine ⟨g, fun j hj => (hg j hj).2, ?_⟩
  apply Array.ext'
  apply List.ext_getElem?
  intro j
  by_cases hj : j < n
  · rw [(hg j hj).1]
    simp [hj]
  · rw [List.getElem?_eq_none (by simpa [hsz] using hj), List.getElem?_eq_none (by simpa using hj)]

/-- A slice of arrays of n numbers. -/
theorem isArrs_of {ti : TypeId} {n : Nat} (ht : P.underlying t = some (.slice e)) (he : P.underlying e = some (.array n ti)) (hi : P.underlying ti = some (.int .i64)) (hci : P.cellsOf ti = 1) (hc : P.cellsOf e = n) (hn : 0 < n)
    (h : DataW.trod enc P w base (fun _ => true) held fuel t (Value.slice a len cap).cells.toList = some x) : ∃ z, IsInts n w a len cap z := by
  rcases open_slice ht h with ⟨hcs, _⟩ | ⟨c, l, m, k, f, D, Pl, hcs, _, hl, hm, hk, _, hel⟩
  · simp [Value.cells] at hcs
    obtain ⟨rfl, rfl, rfl⟩ := hcs
    exact ⟨fun _ _ => 0, Nat.le_refl _, Nat.zero_le _, .inl rfl⟩
  · simp [Value.cells] at hcs
    obtain ⟨rfl, rfl, rfl⟩ := hcs
    simp only [if_true] at hk
    subst hk
    rw [hc] at hel
    have each : ∀ i, i < len → ∃ g : Nat → Int, ∀ j, j < n → w.cell? (c.add (i * n + j)) = some (.int .i64 (g j)) ∧ (Lit.int .i64 (g j)).wf = true := by
      intro i hi'
      obtain ⟨cs', h1, h2⟩ := hel i (by omega)
      obtain ⟨_, hlen, hcell⟩ := World.cells?_some h1
      obtain ⟨xs, n', _, _, _, hl1, hf⟩ := DataW.trod_array he h2
      obtain ⟨g, hg⟩ := choose_lt (α := Int) (n := n) (p := fun j v => cs'[j]? = some (.int .i64 v) ∧ (Lit.int .i64 v).wf = true) (fun j hj => by
        have e3 := hf j hj
        rw [hci] at e3
        rw [List.getElem?_eq_getElem (by omega)] at e3
        obtain ⟨v, hv, _, hw⟩ := DataW.trod_int hi e3
        refine ⟨v, ?_, hw⟩
        have : (cs'.drop j).take 1 = [.int .i64 v] := by simpa using hv
        have h0 : ((cs'.drop j).take 1)[0]? = some (.int .i64 v) := by rw [this]; rfl
        simpa using h0)
      refine ⟨g, fun j hj => ⟨?_, (hg j hj).2⟩⟩
      rw [← add_add, hcell j hj]
      exact (hg j hj).1
    obtain ⟨z, hz⟩ := choose_lt (α := Nat → Int) each
    refine ⟨z, hl, hm, ?_⟩
    by_cases h0 : len = 0
    · exact .inl h0
    · obtain ⟨b, off, hbo⟩ := plain_of (hz 0 (by omega) 0 (by omega)).1
      have hb := World.block_lt_of_cell? _ _ (hz 0 (by omega) 0 (by omega)).1
      have hc0 : c = ⟨b, off, none⟩ := by simpa [Addr.add] using hbo
      subst hc0
      refine .inr ⟨b, off, rfl, by simpa [Addr.add] using hb, fun i j hi hj => ⟨by rw [← add_eq]; exact (hz i hi j hj).1, (hz i hi j hj).2⟩⟩
end
end Go.Proofs.Ytinmhefkmjlelaa.base

/- What a walk is told of an argument that is a struct of numbers and bools, by value, and of a slice of such. Plain facts on memory, of no program. -/
namespace Go.Proofs.Ytinmhefkmjlelaa.base
open Go Go.RowKit Go.ChangeShapes Go.WideShapes Go.Deep

/-- Field j: a bool where isB says so, else an int. -/
def mixed (isB : Nat → Bool) (z : Nat → Int) (y : Nat → Bool) (j : Nat) : Value := if isB j then .bool (y j) else .int .i64 (z j)

/-- A slice of structs of n fields, ints and bools. -/
def IsMix (n : Nat) (isB : Nat → Bool) (w : World) (a : Option Addr) (len cap : Nat) (z : Nat → Nat → Int) (y : Nat → Nat → Bool) : Prop :=
  len ≤ cap ∧ cap ≤ maxLen ∧ (len = 0 ∨ ∃ b off, a = some ⟨b, off, none⟩ ∧ b < w.heap.size ∧ ∀ i j, i < len → j < n → w.cell? ⟨b, off + (i * n + j), none⟩ = some (mixed isB (z i) (y i) j) ∧ (Lit.int .i64 (z i j)).wf = true)

theorem IsMix.below {n : Nat} {isB : Nat → Bool} {w w' : World} {a : Option Addr} {len cap : Nat} {z : Nat → Nat → Int} {y : Nat → Nat → Bool} (h : IsMix n isB w a len cap z y) (g : Below w.heap.size w w') : IsMix n isB w' a len cap z y := by
  obtain ⟨q1, q2, q3⟩ := h
  refine ⟨q1, q2, ?_⟩
  rcases q3 with q3 | ⟨b, off, rfl, hb, hc⟩
  · exact .inl q3
  · exact .inr ⟨b, off, rfl, Nat.lt_of_lt_of_le hb g.size, fun i j hi hj => ⟨(g.cell (p := ⟨b, off + (i * n + j), none⟩) hb).trans (hc i j hi hj).1, (hc i j hi hj).2⟩⟩

section
variable {H : Type} {enc : TypeId × Value → H} {P : Program} {w : World} {base : Nat} {held : Bool} {t e : TypeId} {fuel : Nat} {a : Option Addr} {len cap : Nat} {x : DataW H × List MemPlace}

/-- The fields of a struct's cells. -/
theorem mixed_of {fs : Array Field} {ti tb : TypeId} {n : Nat} {isB : Nat → Bool} {cs : List Value} (he : P.underlying t = some (.struct fs)) (hi : P.underlying ti = some (.int .i64)) (hb : P.underlying tb = some .bool) (hc1 : P.cellsOf ti = 1) (hc2 : P.cellsOf tb = 1)
    (hfs : ∀ j, j < n → (fs[j]?.map fun f => (f.offset, f.type)) = some (j, if isB j then tb else ti))
    (h : DataW.trod enc P w base (fun _ => true) held fuel t cs = some x) : ∃ (z : Nat → Int) (y : Nat → Bool), ∀ j, j < n → cs[j]? = some (mixed isB z y j) ∧ (Lit.int .i64 (z j)).wf = true := by
  obtain ⟨xs, n', _, _, hl1, _, hf⟩ := DataW.trod_struct he h
  obtain ⟨g, hg⟩ := choose_lt (α := Int × Bool) (n := n) (p := fun j v => cs[j]? = some (if isB j then .bool v.2 else .int .i64 v.1) ∧ (Lit.int .i64 v.1).wf = true) (fun j hj => by
    obtain ⟨fj, hfj, e2⟩ := Option.map_eq_some_iff.1 (hfs j hj)
    simp only [Prod.mk.injEq] at e2
    have e3 := hf j fj hfj
    have hc : P.cellsOf fj.type = 1 := by rw [e2.2]; split <;> assumption
    rw [hc, e2.1] at e3
    have hxs : j < xs.length := by
      rcases Nat.lt_or_ge j xs.length with h' | h'
      · exact h'
      · have := (Array.getElem?_eq_some_iff.1 hfj).1
        omega
    rw [List.getElem?_eq_getElem hxs] at e3
    have key : ∀ v : Value, (cs.drop j).take 1 = [v] → cs[j]? = some v := fun v hv => by
      have h0 : ((cs.drop j).take 1)[0]? = some v := by rw [hv]; rfl
      simpa using h0
    by_cases hB : isB j = true
    · rw [e2.2, if_pos hB] at e3
      obtain ⟨v, hv, _⟩ := DataW.trod_bool hb e3
      exact ⟨(0, v), by rw [if_pos hB]; exact key _ hv, (by decide : (Lit.int .i64 0).wf = true)⟩
    · rw [e2.2, if_neg hB] at e3
      obtain ⟨v, hv, _, hw⟩ := DataW.trod_int hi e3
      exact ⟨(v, false), by rw [if_neg hB]; exact key _ hv, hw⟩)
  exact ⟨fun j => (g j).1, fun j => (g j).2, fun j hj => hg j hj⟩

/-- A struct by value. -/
theorem isMix_of {fs : Array Field} {ti tb : TypeId} {n : Nat} (isB : Nat → Bool) {cs : Array Value} (he : P.underlying t = some (.struct fs)) (hi : P.underlying ti = some (.int .i64)) (hb : P.underlying tb = some .bool) (hc1 : P.cellsOf ti = 1) (hc2 : P.cellsOf tb = 1) (hsz : cs.size = n)
    (hfs : ∀ j, j < n → (fs[j]?.map fun f => (f.offset, f.type)) = some (j, if isB j then tb else ti))
    (h : DataW.trod enc P w base (fun _ => true) held fuel t (Value.agg cs).cells.toList = some x) : ∃ (z : Nat → Int) (y : Nat → Bool), (∀ j, j < n → (Lit.int .i64 (z j)).wf = true) ∧ cs = ⟨(List.range n).map (mixed isB z y)⟩ := by
  obtain ⟨z, y, hz⟩ := mixed_of (n := n) he hi hb hc1 hc2 hfs h
  refine ⟨z, y, fun j hj => (hz j hj).2, ?_⟩
  apply Array.ext'
  apply List.ext_getElem?
  intro j
  by_cases hj : j < n
  · have := (hz j hj).1
    simp only [Value.cells] at this
    rw [this]
    simp [hj]
  · rw [List.getElem?_eq_none (by simpa [hsz] using hj), List.getElem?_eq_none (by simpa using hj)]

/-- A slice of such. -/
theorem isMixes_of {fs : Array Field} {ti tb : TypeId} {n : Nat} (isB : Nat → Bool) (ht : P.underlying t = some (.slice e)) (he : P.underlying e = some (.struct fs)) (hi : P.underlying ti = some (.int .i64)) (hb : P.underlying tb = some .bool) (hc1 : P.cellsOf ti = 1) (hc2 : P.cellsOf tb = 1) (hc : P.cellsOf e = n) (hn : 0 < n)
    (hfs : ∀ j, j < n → (fs[j]?.map fun f => (f.offset, f.type)) = some (j, if isB j then tb else ti))
    (h : DataW.trod enc P w base (fun _ => true) held fuel t (Value.slice a len cap).cells.toList = some x) : ∃ z y, IsMix n isB w a len cap z y := by
  rcases open_slice ht h with ⟨hcs, _⟩ | ⟨c, l, m, k, f, D, Pl, hcs, _, hl, hm, hk, _, hel⟩
  · simp [Value.cells] at hcs
    obtain ⟨rfl, rfl, rfl⟩ := hcs
    exact ⟨fun _ _ => 0, fun _ _ => false, Nat.le_refl _, Nat.zero_le _, .inl rfl⟩
  · simp [Value.cells] at hcs
    obtain ⟨rfl, rfl, rfl⟩ := hcs
    simp only [if_true] at hk
    subst hk
    rw [hc] at hel
    obtain ⟨g, hg⟩ := choose_lt (α := (Nat → Int) × (Nat → Bool)) (n := len) (p := fun i v => ∀ j, j < n → w.cell? (c.add (i * n + j)) = some (mixed isB v.1 v.2 j) ∧ (Lit.int .i64 (v.1 j)).wf = true) (fun i hi' => by
      obtain ⟨cs', h1, h2⟩ := hel i (by omega)
      obtain ⟨_, hlen, hcell⟩ := World.cells?_some h1
      obtain ⟨z, y, hz⟩ := mixed_of (n := n) he hi hb hc1 hc2 hfs h2
      refine ⟨(z, y), fun j hj => ⟨?_, (hz j hj).2⟩⟩
      rw [← add_add, hcell j hj]
      exact (hz j hj).1)
    refine ⟨fun i => (g i).1, fun i => (g i).2, hl, hm, ?_⟩
    by_cases h0 : len = 0
    · exact .inl h0
    · obtain ⟨b, off, hbo⟩ := plain_of (hg 0 (by omega) 0 (by omega)).1
      have hb' := World.block_lt_of_cell? _ _ (hg 0 (by omega) 0 (by omega)).1
      have hc0 : c = ⟨b, off, none⟩ := by simpa [Addr.add] using hbo
      subst hc0
      refine .inr ⟨b, off, rfl, by simpa [Addr.add] using hb', fun i j hi hj => ⟨by rw [← add_eq]; exact (hg i hi j hj).1, (hg i hi j hj).2⟩⟩
end
end Go.Proofs.Ytinmhefkmjlelaa.base

/- Plain facts on memory, of no program: a block of two cells that a call writes, and that nothing else turns; 'grownBy' handed on step by step. -/
namespace Go.Proofs.Ytinmhefkmjlelaa.base
open Go Go.RowKit

/-- What grew by new blocks alone is as it was below them. -/
theorem gb_below {a w : World} (h : a.grownBy w none) : Below a.heap.size a w := ⟨h.os, h.tape, h.output, h.size, fun k hk => h.block k hk (by simp)⟩
theorem gb_refl (w : World) (r : Option Nat) : w.grownBy w r := ⟨rfl, rfl, rfl, Nat.le_refl _, fun _ _ _ => rfl⟩
theorem gb_trans {a b c : World} {r : Option Nat} (h : a.grownBy b r) (k : b.grownBy c r) : a.grownBy c r :=
  ⟨k.os.trans h.os, k.tape.trans h.tape, k.output.trans h.output, Nat.le_trans h.size k.size, fun i hi hn => (k.block i (Nat.lt_of_lt_of_le hi h.size) hn).trans (h.block i hi hn)⟩
theorem gb_drew {a w : World} {r : Option Nat} (h : a.grownBy w r) : a.grownBy w.drew r := ⟨h.os, h.tape, h.output, h.size, h.block⟩
theorem gb_drewN {a w : World} {r : Option Nat} (h : a.grownBy w r) (n : Nat) : a.grownBy (w.drewN n) r := ⟨h.os, h.tape, h.output, h.size, h.block⟩
theorem gb_alloc {a w : World} {r : Option Nat} (h : a.grownBy w r) (o : Obj) : a.grownBy (w.alloc o) r :=
  gb_trans h (World.grownBy_alloc w o r)
theorem gb_setCell {a w : World} {r : Option Nat} (h : a.grownBy w r) {p : Addr} (hp : some p.block = r) (u : Value) : a.grownBy (w.setCell p u) r :=
  gb_trans h ⟨rfl, rfl, rfl, by simp [World.setCell], fun k _ hn => Below.heap_setCell _ _ _ _ (fun e => hn (by rw [e]; exact hp))⟩
theorem gb_setB {a w : World} {b i : Nat} (h : a.grownBy w (some b)) (u : Value) : a.grownBy (w.setCell ⟨b, i, none⟩ u) (some b) := gb_setCell h rfl u
theorem gb_setNew {a w : World} {r : Option Nat} (h : a.grownBy w r) {p : Addr} (hp : a.heap.size ≤ p.block) (u : Value) : a.grownBy (w.setCell p u) r :=
  ⟨h.os, h.tape, h.output, by have := h.size; simpa [World.setCell] using this, fun k hk hn => (Below.heap_setCell _ _ _ _ (by omega)).trans (h.block k hk hn)⟩

/-- A cell elsewhere, that may be written, stays both. -/
theorem gb_cellF {w w' : World} {r : Option Nat} {p : Addr} {v : Value} (g : w.grownBy w' r) (hc : w.cell? p = some v) (hf : w.frozen? p = false) (hr : some p.block ≠ r) : w'.cell? p = some v ∧ w'.frozen? p = false := by
  have e := g.block p.block (World.block_lt_of_cell? w p hc) hr
  refine ⟨(World.cell?_of_block e).trans hc, ?_⟩
  unfold World.frozen? at hf ⊢
  rw [e]
  exact hf

/-- A step that writes a block that is new changes nothing that was there. -/
theorem gb_new {a b c : World} (h : a.grownBy b none) (k : b.grownBy c (some a.heap.size)) : a.grownBy c none :=
  ⟨k.os.trans h.os, k.tape.trans h.tape, k.output.trans h.output, Nat.le_trans h.size k.size, fun i hi hn => (k.block i (Nat.lt_of_lt_of_le hi h.size) (by simp; omega)).trans (h.block i hi hn)⟩

theorem gb_over {a b c : World} {i : Nat} (h : a.grownBy b none) (k : b.grownBy c (some i)) (hi : a.heap.size ≤ i) : a.grownBy c none :=
  ⟨k.os.trans h.os, k.tape.trans h.tape, k.output.trans h.output, Nat.le_trans h.size k.size, fun j hj hn => (k.block j (Nat.lt_of_lt_of_le hj h.size) (by simp; omega)).trans (h.block j hj hn)⟩

theorem gb_overO {a b c : World} {r : Option Nat} (h : a.grownBy b none) (k : b.grownBy c r) (hi : ∀ i, r = some i → a.heap.size ≤ i) : a.grownBy c none :=
  ⟨k.os.trans h.os, k.tape.trans h.tape, k.output.trans h.output, Nat.le_trans h.size k.size, fun j hj hn => (k.block j (Nat.lt_of_lt_of_le hj h.size) (fun e => by have := hi j e.symm; omega)).trans (h.block j hj hn)⟩

/-- Steps of a call: what was there when it began stays as it was. -/
theorem bl_own {a w w' : World} {b : Nat} (h : Below a.heap.size a w) (g : w.grownBy w' (some b)) (hb : a.heap.size ≤ b) : Below a.heap.size a w' :=
  h.grown g h.size (fun k hk => by cases hk; exact hb)
theorem bl_none {a w w' : World} (h : Below a.heap.size a w) (g : w.grownBy w' none) : Below a.heap.size a w' :=
  h.grown g h.size (fun k hk => by cases hk)

theorem bl_weak {B B' : Nat} {a w : World} (h : Below B a w) (hb : B' ≤ B) : Below B' a w := ⟨h.os, h.tape, h.output, h.size, fun k hk => h.block k (by omega)⟩

/-- Block b has two cells, both numbers of kind int, and may be written. -/
def Two (t : TypeId) (w : World) (b : Nat) (n a : Int) : Prop := w.heap[b]? = some (.cells #[.int .i64 n, .int .i64 a] t (0, 0))

section
variable {t : TypeId} {w w' : World} {b : Nat} {n a : Int}
theorem Two.lt (h : Two t w b n a) : b < w.heap.size := (Array.getElem?_eq_some_iff.1 h).1
theorem Two.c0 (h : Two t w b n a) : w.cell? ⟨b, 0, none⟩ = some (.int .i64 n) := by unfold Two at h; simp [World.cell?, h]
theorem Two.c1 (h : Two t w b n a) : w.cell? ⟨b, 1, none⟩ = some (.int .i64 a) := by unfold Two at h; simp [World.cell?, h]
theorem Two.f0 (h : Two t w b n a) : w.frozen? ⟨b, 0, none⟩ = false := by unfold Two at h; simp [World.frozen?, h]
theorem Two.f1 (h : Two t w b n a) : w.frozen? ⟨b, 1, none⟩ = false := by unfold Two at h; simp [World.frozen?, h]
theorem Two.set0 (h : Two t w b n a) (m : Int) : Two t (w.setCell ⟨b, 0, none⟩ (.int .i64 m)) b m a := by
  have hl := h.lt
  unfold Two at h ⊢
  have h' : w.heap[b] = .cells #[.int .i64 n, .int .i64 a] t (0, 0) := by simpa [Array.getElem?_eq_getElem hl] using h
  show (w.heap.modify b _)[b]? = _
  rw [Array.getElem?_eq_getElem (by simpa using hl), Array.getElem_modify_self, h']
  rfl
theorem Two.set1 (h : Two t w b n a) (m : Int) : Two t (w.setCell ⟨b, 1, none⟩ (.int .i64 m)) b n m := by
  have hl := h.lt
  unfold Two at h ⊢
  have h' : w.heap[b] = .cells #[.int .i64 n, .int .i64 a] t (0, 0) := by simpa [Array.getElem?_eq_getElem hl] using h
  show (w.heap.modify b _)[b]? = _
  rw [Array.getElem?_eq_getElem (by simpa using hl), Array.getElem_modify_self, h']
  rfl
theorem Two.alloc (h : Two t w b n a) (o : Obj) : Two t (w.alloc o) b n a := (Below.heap_alloc w o b h.lt).trans h
theorem Two.setOther (h : Two t w b n a) {p : Addr} (hp : b ≠ p.block) (u : Value) : Two t (w.setCell p u) b n a := (Below.heap_setCell w p u b hp).trans h
theorem Two.drew (h : Two t w b n a) : Two t w.drew b n a := h
theorem Two.drewN (h : Two t w b n a) (k : Nat) : Two t (w.drewN k) b n a := h
theorem Two.grown (h : Two t w b n a) {r : Option Nat} (hg : w.grownBy w' r) (hr : some b ≠ r) : Two t w' b n a := (hg.block b h.lt hr).trans h
theorem Two.below (h : Two t w b n a) {B : Nat} (hg : Below B w w') (hr : b < B) : Two t w' b n a := (hg.block b hr).trans h
theorem Two.made (w : World) (t : TypeId) (n a : Int) : Two t (w.alloc (.cells #[.int .i64 n, .int .i64 a] t)) w.heap.size n a := heap_alloc_new w _
end
/-- Only blocks of S, and new ones, were written. -/
structure Only (S : Nat → Prop) (w w' : World) : Prop where
  os : w'.os = w.os
  tape : w'.tape = w.tape
  output : w'.output = w.output
  size : w.heap.size ≤ w'.heap.size
  block : ∀ k, k < w.heap.size → ¬ S k → w'.heap[k]? = w.heap[k]?

section
variable {S S' : Nat → Prop} {w w' w'' : World}
theorem Only.refl (S : Nat → Prop) (w : World) : Only S w w := ⟨rfl, rfl, rfl, Nat.le_refl _, fun _ _ _ => rfl⟩
theorem Only.trans (h : Only S w w') (k : Only S w' w'') : Only S w w'' :=
  ⟨k.os.trans h.os, k.tape.trans h.tape, k.output.trans h.output, Nat.le_trans h.size k.size, fun i hi hn => (k.block i (Nat.lt_of_lt_of_le hi h.size) hn).trans (h.block i hi hn)⟩
theorem Only.mono (h : Only S w w') (hs : ∀ k, k < w.heap.size → S k → S' k) : Only S' w w' := ⟨h.os, h.tape, h.output, h.size, fun i hi hn => h.block i hi (fun e => hn (hs i hi e))⟩
theorem Only.of {r : Option Nat} (h : w.grownBy w' r) (hs : ∀ k, r = some k → k < w.heap.size → S k) : Only S w w' := ⟨h.os, h.tape, h.output, h.size, fun i hi hn => h.block i hi (fun e => hn (hs i e.symm hi))⟩
theorem Only.none (h : w.grownBy w' none) : Only S w w' := Only.of h (fun _ e => by cases e)
theorem Only.below {B : Nat} {w0 : World} (h : Only S w w') (k : Below B w0 w) (hb : B ≤ w.heap.size) (hs : ∀ i, S i → B ≤ i) : Below B w0 w' :=
  k.trans ⟨h.os, h.tape, h.output, h.size, fun i hi => h.block i (by omega) (fun e => by have := hs i e; omega)⟩
theorem Two.only {t : TypeId} {b : Nat} {n a : Int} (h : Two t w b n a) (g : Only S w w') (hb : ¬ S b) : Two t w' b n a := (g.block b h.lt hb).trans h
end

/-- What lies in the blocks of F was changed, and new blocks were made; what is now in those of F'. -/
structure Step (F F' : Nat → Prop) (w w' : World) : Prop where
  only : Only F w w'
  foot : ∀ k, F' k → F k ∨ w.heap.size ≤ k

section
variable {F F' F'' G : Nat → Prop} {w w' w'' : World}
theorem Step.refl (F : Nat → Prop) (w : World) : Step F F w w := ⟨Only.refl _ _, fun _ h => .inl h⟩
theorem Step.none (h : w.grownBy w' none) : Step F F w w' := ⟨Only.none h, fun _ h => .inl h⟩
theorem Step.trans (h : Step F F' w w') (k : Step F' F'' w' w'') : Step F F'' w w'' := by
  refine ⟨⟨k.only.os.trans h.only.os, k.only.tape.trans h.only.tape, k.only.output.trans h.only.output, Nat.le_trans h.only.size k.only.size, fun i hi hn => ?_⟩, fun i hi => ?_⟩
  · have h1 := h.only.block i hi hn
    have h2 := k.only.block i (Nat.lt_of_lt_of_le hi h.only.size) (fun e => by
      rcases h.foot i e with h3 | h3
      · exact hn h3
      · omega)
    exact h2.trans h1
  · have := h.only.size
    rcases k.foot i hi with h1 | h1
    · rcases h.foot i h1 with h2 | h2
      · exact .inl h2
      · exact .inr h2
    · exact .inr (by omega)
theorem Step.of {r : Option Nat} (h : w.grownBy w' r) (hr : ∀ k, r = some k → F k) : Step F F w w' := ⟨Only.of h (fun k e _ => hr k e), fun _ h => .inl h⟩
theorem Step.low {B : Nat} {w0 : World} (h : Step F F' w w') (k : Below B w0 w) (hb : B ≤ w.heap.size) (hs : ∀ i, F i → B ≤ i) : Below B w0 w' := h.only.below k hb hs

/-- Two that have no block in common. -/
def Sep (F G : Nat → Prop) : Prop := ∀ k, F k → ¬ G k
theorem Sep.symm (h : Sep F G) : Sep G F := fun k hg hf => h k hf hg
theorem Sep.step (h : Sep F G) (s : Step F F' w w') (hg : ∀ k, G k → k < w.heap.size) : Sep F' G := fun k hf' hg' => by
  rcases s.foot k hf' with hf | hl
  · exact h k hf hg'
  · have := hg k hg'; omega
theorem Sep.new (hf : ∀ k, F k → w.heap.size ≤ k) (hg : ∀ k, G k → k < w.heap.size) : Sep F G := fun k h1 h2 => by have := hf k h1; have := hg k h2; omega
end
end Go.Proofs.Ytinmhefkmjlelaa.base

/- A struct of a slice and a number, behind a pointer, whose slice is appended to: plain facts on memory, of no program. -/
namespace Go.Proofs.Ytinmhefkmjlelaa.base
open Go Go.RowKit

section
variable {P : Program}

/-- append of something onto a slice of one's own: the row is the old one, or in a new block. -/
theorem run_append_at (w : World) (base : Nat) (t ty e : TypeId) (i : TypeInfo) (z : Value) (size bytes : Nat) (ht : P.underlying t = some (.slice e)) (hi : P.info? e = some i) (hz : i.zero = some z)
    (hsize : i.size = size) (hby : i.bytes = bytes) (hzs : z.cells.size = size) (hsz : 0 < size)
    (v : Value) (n : Nat) (xs : List Value) (hown : w.ownsRow base e size v n xs)
    (a : Addr) (m c : Nat) (news : List Value) (hl : news.length = m * size) (hnews : ∀ j u, news[j]? = some u → w.cell? (a.add j) = some u) (h1 : ∀ u ∈ news, u.oneCell' = true)
    (h63 : n + m ≤ maxLen) (hbytes : (n + m) * bytes ≤ 140737488355328) (hbase : base ≤ w.heap.size) :
    ∃ v' w', (Builtin.append_ #[t, t] ty #[v, .slice (some a) m c]).run P w = .ok v' w' ∧ w'.ownsRow base e size v' (n + m) (xs ++ news) ∧ w.grownBy w' v.ownBlock ∧
      (v'.ownBlock = v.ownBlock ∨ ∃ k, v'.ownBlock = some k ∧ w.heap.size ≤ k) := by
  obtain ⟨v', w', hr, ho, hg, _⟩ := run_append_own (P := P) w base t ty e i z size bytes ht hi hz hsize hby hzs hsz v n xs hown a m c news hl hnews h1 h63 hbytes hbase
  refine ⟨v', w', hr, ho, hg, ?_⟩
  have fresh : ∀ v2 w2, (Builtin.append_ #[t, t] ty #[v, .slice (some a) m c]).run P w = .ok v2 w2 → w2.ownsRow w.heap.size e size v2 (n + m) (xs ++ news) → v'.ownBlock = none ∨ ∃ k, v'.ownBlock = some k ∧ w.heap.size ≤ k := by
    intro v2 w2 h2 o2
    rw [hr] at h2
    obtain ⟨rfl, rfl⟩ : v' = v2 ∧ w' = w2 := by injection h2 with h3 h4; exact ⟨h3, h4⟩
    cases hv : v'.ownBlock with
    | none => exact .inl rfl
    | some k => exact .inr ⟨k, rfl, (o2.lt k hv).1⟩
  rcases hown.2 with ⟨rfl, rfl⟩ | ⟨g, cap, cur, rfl, hbg, hgg, hnc, hcm, hcs, htake⟩
  · have hx : xs = [] := List.eq_nil_of_length_eq_zero (by simpa using hown.1)
    subst hx
    obtain ⟨v2, w2, h2, o2, _⟩ := run_append_own (P := P) w w.heap.size t ty e i z size bytes ht hi hz hsize hby hzs hsz (.slice none 0 0) 0 [] (World.ownsRow_nil w _ e size) a m c news hl hnews h1 h63 hbytes (Nat.le_refl _)
    rcases fresh v2 w2 h2 o2 with h | h
    · exact .inl h
    · exact .inr h
  · by_cases hroom : n + m ≤ cap
    · subst hsize
      have hfit : n * i.size + news.length ≤ cur.size := by rw [hl, hcs, ← Nat.add_mul]; exact Nat.mul_le_mul_right _ hroom
      have h2 := run_append_room (P := P) w t ty e i ht hi g n cap cur hgg a m c news hl hnews h1 hroom hfit
      rw [hr] at h2
      injection h2 with h3 h4
      exact .inl (by rw [h3]; rfl)
    · have holds : ∀ j u, xs[j]? = some u → w.cell? ((⟨g, 0, none⟩ : Addr).add j) = some u := hown.cells (g := g) rfl
      obtain ⟨v2, w2, h2, o2, _⟩ := run_append_arg_grows (P := P) w t ty e i z size bytes ht hi hz hsize hby hzs hsz ⟨g, 0, none⟩ n cap xs hown.1 holds a m c news hl hnews (by omega) h63 hbytes
      rcases fresh v2 w2 h2 o2 with h | h
      · exfalso
        rcases o2.2 with ⟨rfl, h0⟩ | ⟨g2, cap2, cur2, rfl, _⟩
        · omega
        · rw [hr] at h2
          injection h2 with h3 h4
          rw [h3] at h
          simp [Value.ownBlock] at h
      · exact .inr h

theorem wpList_append_at (w : World) {ops : Array Oper} {rest : List Oper} {o : Oper} {a : Act} {Q : Exit → Act → World → Prop}
    (hgd : o.guard = none) (s x : Operand) (t : TypeId) (hop : o.op = Op.call { callee := Callee.builtin Builtin.append, args := #[s, x], argTypes := #[t, t] })
    (base : Nat) (e : TypeId) (i : TypeInfo) (z : Value) (size bytes : Nat) (h1 : P.underlying t = some (.slice e)) (h2 : P.info? e = some i) (h3 : i.zero = some z) (h4 : i.size = size) (h5 : i.bytes = bytes) (h6 : z.cells.size = size) (h7 : 0 < size)
    (v : Value) (n : Nat) (xs : List Value) (hs : a.eval s = v) (hown : w.ownsRow base e size v n xs)
    (ad : Addr) (m c : Nat) (news : List Value) (hx : a.eval x = .slice (some ad) m c) (hl : news.length = m * size) (hnews : ∀ j u, news[j]? = some u → w.cell? (ad.add j) = some u) (h1c : ∀ u ∈ news, u.oneCell' = true)
    (h63 : n + m ≤ maxLen) (hbytes : (n + m) * bytes ≤ 140737488355328) (hbase : base ≤ w.heap.size) (hm : 0 < m)
    (hK : ∀ g cap w', w'.ownsRow base e size (.slice (some ⟨g, 0, none⟩) (n + m) cap) (n + m) (xs ++ news) → w.grownBy w' v.ownBlock → (some g = v.ownBlock ∨ w.heap.size ≤ g) → wpList P ops Q rest (a.put o.dst (.slice (some ⟨g, 0, none⟩) (n + m) cap)) w') :
    wpList P ops Q (o :: rest) a w := by
  refine wpList_plain hgd fun K hK' => ?_
  obtain ⟨v', w', hrun, r1, r2, r3⟩ := run_append_at (P := P) w base t o.type e i z size bytes h1 h2 h3 h4 h5 h6 h7 v n xs hown ad m c news hl hnews h1c h63 hbytes hbase
  have r0 := r1
  rcases r0.2 with ⟨_, h0⟩ | ⟨g, cap, _, rfl, _⟩
  · omega
  unfold Oper.wp
  simp [execOp, hop, resolve, invoke, builtin, hs, hx, hrun, Result.andThen]
  exact hK' _ _ (hK g cap w' r1 r2 (by
    rcases r3 with h | ⟨k, h, hk⟩
    · exact .inl h
    · cases h; exact .inr hk))

/-- The same as one step of a region that draws its order. -/
theorem step_append_at {ops : Array Oper} {o : Oper} {a : Act} {w : World} {K : Act → World → Prop} {Q : Exit → Act → World → Prop} {E : Prop}
    (hg : o.guard = none) (s x : Operand) (t : TypeId) (hop : o.op = Op.call { callee := Callee.builtin Builtin.append, args := #[s, x], argTypes := #[t, t] })
    (base : Nat) (e : TypeId) (i : TypeInfo) (z : Value) (size bytes : Nat) (h1 : P.underlying t = some (.slice e)) (h2 : P.info? e = some i) (h3 : i.zero = some z) (h4 : i.size = size) (h5 : i.bytes = bytes) (h6 : z.cells.size = size) (h7 : 0 < size)
    (v : Value) (n : Nat) (xs : List Value) (hs : a.eval s = v) (hown : w.ownsRow base e size v n xs)
    (ad : Addr) (m c : Nat) (news : List Value) (hx : a.eval x = .slice (some ad) m c) (hl : news.length = m * size) (hnews : ∀ j u, news[j]? = some u → w.cell? (ad.add j) = some u) (h1c : ∀ u ∈ news, u.oneCell' = true)
    (h63 : n + m ≤ maxLen) (hbytes : (n + m) * bytes ≤ 140737488355328) (hbase : base ≤ w.heap.size) (hm : 0 < m)
    (hK : ∀ g cap w', w'.ownsRow base e size (.slice (some ⟨g, 0, none⟩) (n + m) cap) (n + m) (xs ++ news) → w.grownBy w' v.ownBlock → (some g = v.ownBlock ∨ w.heap.size ≤ g) → K (a.put o.dst (.slice (some ⟨g, 0, none⟩) (n + m) cap)) w') :
    if Region.wanted o (yielded ops a.tmps) = true then Oper.wp P o a w K Q else E := by
  have hw : Region.wanted o (yielded ops a.tmps) = true := by simp [Region.wanted, hg]
  rw [if_pos hw]
  obtain ⟨v', w', hrun, r1, r2, r3⟩ := run_append_at (P := P) w base t o.type e i z size bytes h1 h2 h3 h4 h5 h6 h7 v n xs hown ad m c news hl hnews h1c h63 hbytes hbase
  have r0 := r1
  rcases r0.2 with ⟨_, h0⟩ | ⟨g, cap, _, rfl, _⟩
  · omega
  unfold Oper.wp
  simp [execOp, hop, resolve, invoke, builtin, hs, hx, hrun, Result.andThen]
  exact hK g cap w' r1 r2 (by
    rcases r3 with h | ⟨k, h, hk⟩
    · exact .inl h
    · cases h; exact .inr hk)
end

/-- An empty slice that was written out. -/
theorem ownsRow_empty (w : World) (e : TypeId) (sz : Nat) : (w.alloc (.cells #[] e)).ownsRow w.heap.size e sz (.slice (some ⟨w.heap.size, 0, none⟩) 0 0) 0 [] :=
  ⟨by simp, .inr ⟨w.heap.size, 0, #[], rfl, Nat.le_refl _, heap_alloc_new w _, Nat.le_refl _, by unfold maxLen; omega, by simp, by simp⟩⟩

/-- What isn't of F stands where F is changed, and is not of what F is then. -/
theorem cell_step {F F' : Nat → Prop} {w w' : World} {p : Addr} {v : Value} (s : Step F F' w w') (hc : w.cell? p = some v) (hn : ¬ F p.block) : w'.cell? p = some v ∧ ¬ F' p.block := by
  have hl := World.block_lt_of_cell? w p hc
  refine ⟨(World.cell?_of_block (s.only.block p.block hl hn)).trans hc, fun h => ?_⟩
  rcases s.foot _ h with h1 | h1
  · exact hn h1
  · omega

/-- A row of one's own hangs on its block alone. -/
theorem ownsRow_keep {base : Nat} {e : TypeId} {sz : Nat} {w w' : World} {v : Value} {n : Nat} {xs : List Value} (h : w.ownsRow base e sz v n xs) (hk : ∀ k, v.ownBlock = some k → w'.heap[k]? = w.heap[k]?) : w'.ownsRow base e sz v n xs := by
  refine ⟨h.1, ?_⟩
  rcases h.2 with hn | ⟨g, cap, cur, rfl, h4, h5, rest⟩
  · exact .inl hn
  · exact .inr ⟨g, cap, cur, rfl, h4, (hk g rfl).trans h5, rest⟩
/-- .. which is no map's, and of no struct. -/
theorem ownsRow_type {base : Nat} {e : TypeId} {sz : Nat} {w : World} {v : Value} {n : Nat} {xs : List Value} (h : w.ownsRow base e sz v n xs) {k : Nat} (hk : v.ownBlock = some k) : ∃ cs, w.heap[k]? = some (.cells cs e (0, 0)) := by
  rcases h.2 with ⟨rfl, _⟩ | ⟨g, cap, cur, rfl, _, h5, _⟩
  · simp [Value.ownBlock] at hk
  · simp only [Value.ownBlock, Option.some.injEq] at hk
    subst hk
    exact ⟨cur, h5⟩

/-- A call of a Go function, by its contract, as one step of a region that draws its order. -/
theorem step_call {P : Program} {ops : Array Oper} {o : Oper} {a : Act} {w : World} {K : Act → World → Prop} {Q : Exit → Act → World → Prop} {E : Prop}
    (hg : o.guard = none) (f : FuncId) (vals : Array Value) (hx : (execOp a.eval o).run P w = .ok (.enter f vals) w) {R : Ending → World → Prop} (hC : Calls P f vals w R)
    (hr : ∀ e w', R e w' → ∃ v, e = .returned v ∧ K (a.put o.dst v) w') : if Region.wanted o (yielded ops a.tmps) = true then Oper.wp P o a w K Q else E := by
  have hw : Region.wanted o (yielded ops a.tmps) = true := by simp [Region.wanted, hg]
  rw [if_pos hw]
  unfold Oper.wp
  rw [hx, Oper.upon_enter]
  refine hC.mono ?_
  intro e w' h
  obtain ⟨v, rfl, hK⟩ := hr e w' h
  exact hK

theorem new_cells (w : World) (l : List Value) (e : TypeId) : ∀ (j : Nat) (u : Value), l[j]? = some u → (w.alloc (.cells l.toArray e)).cell? ((⟨w.heap.size, 0, none⟩ : Addr).add j) = some u := by
  intro j u hj
  have hadd : (⟨w.heap.size, 0, none⟩ : Addr).add j = ⟨w.heap.size, j, none⟩ := by unfold Addr.add; split <;> simp_all
  rw [hadd, cell_of_row _ _ _ _ _ _ (heap_alloc_new w _)]
  simpa using hj

/-- Block b holds just these cells, is of type t, and may be written. -/
def Blk (t : TypeId) (w : World) (b : Nat) (cs : Array Value) : Prop := w.heap[b]? = some (.cells cs t (0, 0))

/-- Block b is a struct (of type t), and one field of it, with the fields pre ahead of it and post behind, is a slice that owns the cells xs, of n elements of type e, sz cells each, in the block r (none: it is nil); all from block base on. -/
def Fld (t e : TypeId) (sz base : Nat) (w : World) (b : Nat) (pre post : List Value) (n : Nat) (xs : List Value) (r : Option Nat) : Prop :=
  base ≤ b ∧ r ≠ some b ∧ ∃ v, Blk t w b ⟨pre ++ v :: post⟩ ∧ w.ownsRow base e sz v n xs ∧ v.ownBlock = r

/-- .. a struct of a slice and a number. -/
abbrev Arn (t e : TypeId) (sz base : Nat) (w : World) (b : Nat) (room : Int) (n : Nat) (xs : List Value) (r : Option Nat) : Prop := Fld t e sz base w b [] [.int .i64 room] n xs r

/-- Only block b, the row r and new blocks were written, and the row is now r', which is r or new. -/
structure Chg (b : Nat) (r r' : Option Nat) (w w' : World) : Prop where
  os : w'.os = w.os
  tape : w'.tape = w.tape
  output : w'.output = w.output
  size : w.heap.size ≤ w'.heap.size
  block : ∀ k, k < w.heap.size → k ≠ b → some k ≠ r → w'.heap[k]? = w.heap[k]?
  row : r' = r ∨ ∃ k, r' = some k ∧ w.heap.size ≤ k

theorem bl_drewN {B : Nat} {a w : World} (h : Below B a w) (k : Nat) : Below B a (w.drewN k) := ⟨h.os, h.tape, h.output, h.size, h.block⟩

section
variable {t : TypeId} {w w' : World} {b : Nat} {cs : Array Value}
theorem Blk.lt (h : Blk t w b cs) : b < w.heap.size := lt_of_block h
theorem Blk.cell (h : Blk t w b cs) (j : Nat) : w.cell? ⟨b, j, none⟩ = cs[j]? := cell_of_row w b j cs t (0, 0) h
theorem Blk.free (h : Blk t w b cs) (j : Nat) : w.frozen? ⟨b, j, none⟩ = false := by unfold Blk at h; simp [World.frozen?, h]
theorem Blk.set (h : Blk t w b cs) (j : Nat) (u : Value) : Blk t (w.setCell ⟨b, j, none⟩ u) b (cs.setIfInBounds j u) := by
  have hl := h.lt
  unfold Blk at h ⊢
  have h' : w.heap[b] = .cells cs t (0, 0) := by simpa [Array.getElem?_eq_getElem hl] using h
  show (w.heap.modify b _)[b]? = _
  rw [Array.getElem?_eq_getElem (by simpa using hl), Array.getElem_modify_self, h']
  rfl
theorem Blk.keep (h : Blk t w b cs) (k : w'.heap[b]? = w.heap[b]?) : Blk t w' b cs := k.trans h
theorem Blk.alloc (h : Blk t w b cs) (o : Obj) : Blk t (w.alloc o) b cs := h.keep (Below.heap_alloc w o b h.lt)
theorem Blk.other (h : Blk t w b cs) {p : Addr} (hp : b ≠ p.block) (u : Value) : Blk t (w.setCell p u) b cs := h.keep (Below.heap_setCell w p u b hp)
theorem Blk.drew (h : Blk t w b cs) : Blk t w.drew b cs := h
theorem Blk.drewN (h : Blk t w b cs) (k : Nat) : Blk t (w.drewN k) b cs := h
theorem Blk.grown (h : Blk t w b cs) {r : Option Nat} (hg : w.grownBy w' r) (hr : some b ≠ r) : Blk t w' b cs := h.keep (hg.block b h.lt hr)
theorem Blk.below (h : Blk t w b cs) {B : Nat} (hg : Below B w w') (hr : b < B) : Blk t w' b cs := h.keep (hg.block b hr)
theorem Blk.chg (h : Blk t w b cs) {b2 : Nat} {r r' : Option Nat} (c : Chg b2 r r' w w') (h1 : b ≠ b2) (h2 : some b ≠ r) : Blk t w' b cs := h.keep (c.block b h.lt h1 h2)
theorem Blk.made (w : World) (t : TypeId) (cs : Array Value) : Blk t (w.alloc (.cells cs t)) w.heap.size cs := heap_alloc_new w _
end

section
variable {t e t2 e2 : TypeId} {sz sz2 base base2 : Nat} {w w' : World} {b b2 : Nat} {room : Int} {pre post pre2 post2 : List Value} {n n2 : Nat} {xs xs2 : List Value} {r r' r2 : Option Nat}

theorem Fld.base_le (h : Fld t e sz base w b pre post n xs r) : base ≤ b := h.1
theorem Fld.lt (h : Fld t e sz base w b pre post n xs r) : b < w.heap.size := by
  obtain ⟨_, _, v, hb, _⟩ := h
  exact hb.lt
theorem Fld.len (h : Fld t e sz base w b pre post n xs r) : xs.length = n * sz := by
  obtain ⟨_, _, v, _, ho, _⟩ := h
  exact ho.1
theorem Fld.row_lt (h : Fld t e sz base w b pre post n xs r) : ∀ k, r = some k → base ≤ k ∧ k < w.heap.size := by
  obtain ⟨_, _, v, _, ho, rfl⟩ := h
  exact ho.lt
theorem Fld.row_ne (h : Fld t e sz base w b pre post n xs r) : some b ≠ r := fun e => h.2.1 e.symm
/-- The row's block has another element type than a block of another type. -/
theorem Fld.row_type (h : Fld t e sz base w b pre post n xs r) {cs : Array Value} {k : Nat} (hk : Blk t2 w k cs) (hne : t2 ≠ e) : some k ≠ r := by
  obtain ⟨_, _, v, _, ho, rfl⟩ := h
  rcases ho.2 with ⟨rfl, _⟩ | ⟨g, cap, cur, rfl, _, hg, _⟩
  · simp [Value.ownBlock]
  · simp only [Value.ownBlock]
    intro e1
    cases e1
    unfold Blk at hk
    rw [hg] at hk
    simp at hk
    exact hne hk.2.symm

/-- What the walk is told of it. -/
theorem Fld.open (h : Fld t e sz base w b pre post n xs r) : ∃ ao cap, Blk t w b ⟨pre ++ .slice ao n cap :: post⟩ ∧ w.ownsRow base e sz (.slice ao n cap) n xs ∧ (Value.slice ao n cap).ownBlock = r := by
  obtain ⟨_, _, v, hb, ho, hr⟩ := h
  obtain ⟨ao, cap, rfl⟩ : ∃ ao cap, v = .slice ao n cap := by
    rcases ho.2 with ⟨rfl, rfl⟩ | ⟨g, cap, cur, rfl, _⟩
    · exact ⟨none, 0, rfl⟩
    · exact ⟨_, cap, rfl⟩
  exact ⟨ao, cap, hb, ho, hr⟩

theorem Arn.open (h : Arn t e sz base w b room n xs r) : ∃ ao cap, w.cell? ⟨b, 0, none⟩ = some (.slice ao n cap) ∧ w.cell? ⟨b, 1, none⟩ = some (.int .i64 room) ∧ w.frozen? ⟨b, 0, none⟩ = false ∧
    w.ownsRow base e sz (.slice ao n cap) n xs ∧ (Value.slice ao n cap).ownBlock = r := by
  obtain ⟨ao, cap, hb, ho, hr⟩ := Fld.open h
  exact ⟨ao, cap, hb.cell 0, hb.cell 1, hb.free 0, ho, hr⟩

/-- Its elements' cells, where it has one. -/
theorem Fld.elem (h : Fld t e sz base w b pre post n xs r) (hn : 0 < n) : ∃ g cap, Blk t w b ⟨pre ++ .slice (some ⟨g, 0, none⟩) n cap :: post⟩ ∧ ∀ j, j < n * sz → w.cell? ⟨g, j, none⟩ = xs[j]? := by
  obtain ⟨_, _, v, hb, ho, hr⟩ := h
  rcases ho.2 with ⟨rfl, rfl⟩ | ⟨g, cap, cur, rfl, _⟩
  · omega
  · exact ⟨g, cap, hb, fun j hj => ho.cellAt j hj⟩
theorem Arn.elem (h : Arn t e sz base w b room n xs r) (hn : 0 < n) : ∃ g cap, w.cell? ⟨b, 0, none⟩ = some (.slice (some ⟨g, 0, none⟩) n cap) ∧ ∀ j, j < n * sz → w.cell? ⟨g, j, none⟩ = xs[j]? := by
  obtain ⟨g, cap, hb, hc⟩ := Fld.elem h hn
  exact ⟨g, cap, hb.cell 0, hc⟩

theorem Fld.keep (h : Fld t e sz base w b pre post n xs r) (hb : w'.heap[b]? = w.heap[b]?) (hr : ∀ k, r = some k → w'.heap[k]? = w.heap[k]?) : Fld t e sz base w' b pre post n xs r := by
  obtain ⟨h1, h2, v, h3, ho, rfl⟩ := h
  refine ⟨h1, h2, v, h3.keep hb, ⟨ho.1, ?_⟩, rfl⟩
  rcases ho.2 with hn | ⟨g, cap, cur, rfl, h4, h5, rest⟩
  · exact .inl hn
  · exact .inr ⟨g, cap, cur, rfl, h4, (hr g rfl).trans h5, rest⟩
theorem Fld.alloc (h : Fld t e sz base w b pre post n xs r) (o : Obj) : Fld t e sz base (w.alloc o) b pre post n xs r :=
  h.keep (Below.heap_alloc w o b h.lt) (fun k hk => Below.heap_alloc w o k (h.row_lt k hk).2)
theorem Fld.drew (h : Fld t e sz base w b pre post n xs r) : Fld t e sz base w.drew b pre post n xs r := h
theorem Fld.drewN (h : Fld t e sz base w b pre post n xs r) (k : Nat) : Fld t e sz base (w.drewN k) b pre post n xs r := h
theorem Fld.grown (h : Fld t e sz base w b pre post n xs r) (g : w.grownBy w' none) : Fld t e sz base w' b pre post n xs r :=
  h.keep (g.block b h.lt (by simp)) (fun k hk => g.block k (h.row_lt k hk).2 (by simp))
theorem Fld.grownRow (h : Fld t e sz base w b pre post n xs r) (g : w.grownBy w' r2) (h1 : some b ≠ r2) (h2 : r = none ∨ r ≠ r2) : Fld t e sz base w' b pre post n xs r :=
  h.keep (g.block b h.lt h1) (fun k hk => g.block k (h.row_lt k hk).2 (by
    rcases h2 with h2 | h2
    · rw [h2] at hk; cases hk
    · rw [← hk]; exact h2))
theorem Fld.other (h : Fld t e sz base w b pre post n xs r) {p : Addr} (hp : b ≠ p.block) (hr : r ≠ some p.block) (u : Value) : Fld t e sz base (w.setCell p u) b pre post n xs r :=
  h.keep (Below.heap_setCell w p u b hp) (fun k hk => Below.heap_setCell w p u k (fun e => hr (by rw [hk, e])))

/-- A new one. -/
theorem Fld.made (w : World) (t e : TypeId) (sz : Nat) (hb : base ≤ w.heap.size) (pre post : List Value) : Fld t e sz base (w.alloc (.cells ⟨pre ++ .slice none 0 0 :: post⟩ t)) w.heap.size pre post 0 [] none :=
  ⟨hb, by simp, .slice none 0 0, heap_alloc_new w _, World.ownsRow_nil _ _ _ _, rfl⟩
theorem Arn.made (w : World) (t e : TypeId) (sz : Nat) (hb : base ≤ w.heap.size) (room : Int) : Arn t e sz base (w.alloc (.cells #[.slice none 0 0, .int .i64 room] t)) w.heap.size room 0 [] none :=
  Fld.made w t e sz hb [] [.int .i64 room]

/-- A field beside the slice is stored. -/
theorem Fld.setPost (h : Fld t e sz base w b pre post n xs r) (j : Nat) (u : Value) : Fld t e sz base (w.setCell ⟨b, pre.length + 1 + j, none⟩ u) b pre (post.set j u) n xs r := by
  obtain ⟨h1, h2, v, h3, ho, rfl⟩ := h
  refine ⟨h1, h2, v, ?_, ownsRow_setCell_other ho h2 _, rfl⟩
  have := h3.set (pre.length + 1 + j) u
  simpa [List.set_append, List.set_cons_succ, show ¬ pre.length + 1 + j < pre.length by omega, show pre.length + 1 + j - pre.length = j + 1 by omega] using this

theorem Chg.below {B : Nat} (h : Chg b r r' w w') {w0 : World} (k : Below B w0 w) (hs : B ≤ w.heap.size) (hb : B ≤ b) (hr : ∀ k, r = some k → B ≤ k) : Below B w0 w' :=
  k.trans ⟨h.os, h.tape, h.output, h.size, fun i hi => h.block i (by omega) (by omega) (fun e => by have := hr i e.symm; omega)⟩

/-- Behind a put into one of its own, where base is below all. -/
theorem Chg.bl {B : Nat} (h : Chg b r r' w w') {w0 : World} (k : Below B w0 w) (hs : B ≤ w.heap.size) (a : Fld t e sz B w b pre post n xs r) : Below B w0 w' :=
  h.below k hs a.base_le (fun i hi => (a.row_lt i hi).1)

/-- Another block, neither the struct nor the row, is as it was. -/
theorem Chg.cell (h : Chg b r r' w w') {a : Addr} {v : Value} (hc : w.cell? a = some v) (hb : a.block ≠ b) (hr : some a.block ≠ r) : w'.cell? a = some v :=
  (World.cell?_of_block (h.block a.block (World.block_lt_of_cell? w a hc) hb hr)).trans hc

/-- Two of them that have nothing to do with each other. -/
def Apart (b : Nat) (r : Option Nat) (b2 : Nat) (r2 : Option Nat) : Prop := b ≠ b2 ∧ r ≠ some b2 ∧ r2 ≠ some b ∧ (r = none ∨ r ≠ r2)
theorem Apart.symm (h : Apart b r b2 r2) : Apart b2 r2 b r := ⟨h.1.symm, h.2.2.1, h.2.1, by
  cases r2 with
  | none => exact .inl rfl
  | some k => exact .inr (fun e => by rcases h.2.2.2 with h' | h'; · rw [h'] at e; cases e
                                      · exact h' e.symm)⟩
theorem Apart.step (h : Apart b r b2 r2) (c : Chg b r r' w w') (a2 : Fld t2 e2 sz2 base2 w b2 pre2 post2 n2 xs2 r2) : Apart b r' b2 r2 := by
  rcases c.row with rfl | ⟨k, rfl, hk⟩
  · exact h
  · refine ⟨h.1, fun e => ?_, h.2.2.1, .inr fun e => ?_⟩
    · have := a2.lt; cases e; omega
    · have := (a2.row_lt k e.symm).2; omega
theorem Fld.chg (a2 : Fld t2 e2 sz2 base2 w b2 pre2 post2 n2 xs2 r2) (c : Chg b r r' w w') (h : Apart b r b2 r2) : Fld t2 e2 sz2 base2 w' b2 pre2 post2 n2 xs2 r2 :=
  a2.keep (c.block b2 a2.lt h.1.symm h.2.1.symm) (fun k hk => c.block k (a2.row_lt k hk).2 (fun e => h.2.2.1 (by rw [hk, e])) (fun e => by
    subst hk
    rcases h.2.2.2 with h' | h'
    · rw [h'] at e; cases e
    · exact h' e.symm))

/-- The put, told once: the append has grown the row, and then the slice was stored. -/
theorem Fld.put (h : Fld t e sz base w b pre post n xs r) {w1 : World} {g' c' n' : Nat} {xs' : List Value} (ho : w1.ownsRow base e sz (.slice (some ⟨g', 0, none⟩) n' c') n' xs') (g : w.grownBy w1 r)
    (hv : some g' = r ∨ w.heap.size ≤ g') : Fld t e sz base (w1.setCell ⟨b, pre.length, none⟩ (.slice (some ⟨g', 0, none⟩) n' c')) b pre post n' xs' (some g') ∧ Chg b r (some g') w (w1.setCell ⟨b, pre.length, none⟩ (.slice (some ⟨g', 0, none⟩) n' c')) := by
  have hb0 := h.lt
  obtain ⟨h1, h2, v, h3, _, hr⟩ := h
  have hb1 : Blk t w1 b ⟨pre ++ v :: post⟩ := h3.grown g (fun e => h2 e.symm)
  have hne : (some g') ≠ some b := by
    rcases hv with e | hk
    · rw [e]; exact h2
    · intro e2; cases e2; omega
  refine ⟨⟨h1, hne, _, ?_, ownsRow_setCell_other ho (by simpa [Value.ownBlock] using hne) _, rfl⟩, ⟨g.os, g.tape, g.output, by simpa [World.setCell] using g.size, fun k hk hkb hkr => ?_, ?_⟩⟩
  · have := hb1.set pre.length (.slice (some ⟨g', 0, none⟩) n' c')
    simpa [List.set_append] using this
  · exact (Below.heap_setCell _ _ _ _ hkb).trans (g.block k hk hkr)
  · rcases hv with e | hk
    · exact .inl e
    · exact .inr ⟨g', rfl, hk⟩
theorem Arn.put (h : Arn t e sz base w b room n xs r) {w1 : World} {g' c' n' : Nat} {xs' : List Value} (ho : w1.ownsRow base e sz (.slice (some ⟨g', 0, none⟩) n' c') n' xs') (g : w.grownBy w1 r)
    (hv : some g' = r ∨ w.heap.size ≤ g') : Arn t e sz base (w1.setCell ⟨b, 0, none⟩ (.slice (some ⟨g', 0, none⟩) n' c')) b room n' xs' (some g') ∧ Chg b r (some g') w (w1.setCell ⟨b, 0, none⟩ (.slice (some ⟨g', 0, none⟩) n' c')) :=
  Fld.put h ho g hv

/-- Behind the append, ahead of the store. -/
theorem Fld.mid (h : Fld t e sz base w b pre post n xs r) {v : Value} {o : Obj} {w1 : World} {j : Nat} (c : w.cell? ⟨b, j, none⟩ = some v) (g : (w.alloc o).grownBy w1 r) : w1.cell? ⟨b, j, none⟩ = some v ∧ w1.frozen? ⟨b, j, none⟩ = false := by
  have e1 : w1.heap[b]? = w.heap[b]? := (g.block b (by have := h.lt; simp; omega) (fun e => h.2.1 e.symm)).trans (Below.heap_alloc w o b h.lt)
  obtain ⟨_, _, v0, hb, _⟩ := h
  exact ⟨(World.cell?_of_block (w := w) e1).trans c, Blk.free (hb.keep e1) j⟩

theorem Chg.after (c : Chg b r r' w w') {w0 : World} (g : w0.grownBy w none) : Chg b r r' w0 w' :=
  ⟨c.os.trans g.os, c.tape.trans g.tape, c.output.trans g.output, Nat.le_trans g.size c.size, fun k hk hb hr => (c.block k (Nat.lt_of_lt_of_le hk g.size) hb hr).trans (g.block k hk (by simp)), by
    rcases c.row with h | ⟨k, h, hk⟩
    · exact .inl h
    · exact .inr ⟨k, h, Nat.le_trans g.size hk⟩⟩
theorem Chg.drewN (c : Chg b r r' w w') (k : Nat) : Chg b r r' w (w'.drewN k) := ⟨c.os, c.tape, c.output, c.size, c.block, c.row⟩
theorem Chg.drew (c : Chg b r r' w w') : Chg b r r' w w'.drew := ⟨c.os, c.tape, c.output, c.size, c.block, c.row⟩
end

/-- The first n numbers of a list, as a row of cells. -/
def vals (z : Nat → Int) (n : Nat) : List Value := (List.range n).map fun i => .int .i64 (z i)
theorem vals_succ (z : Nat → Int) (n : Nat) : vals z (n + 1) = vals z n ++ [.int .i64 (z n)] := by simp [vals, List.range_succ]
theorem vals_get (z : Nat → Int) (n i : Nat) (h : i < n) : (vals z n)[i]? = some (.int .i64 (z i)) := by simp [vals, h]
theorem vals_push (z : Nat → Int) (n : Nat) (x : Int) : ∃ y, vals y (n + 1) = vals z n ++ [.int .i64 x] ∧ vals y n = vals z n ∧ y n = x := by
  have h : vals (fun j => if j = n then x else z j) n = vals z n := by
    apply List.map_congr_left
    intro i hi
    have : i < n := by simpa using hi
    simp [show i ≠ n by omega]
  exact ⟨fun j => if j = n then x else z j, by rw [vals_succ, h]; simp, h, by simp⟩

/-- The first n pairs of a list, as a row of cells. -/
def pairs (z : Nat → Nat → Int) (n : Nat) : List Value := (List.range n).flatMap fun i => [.int .i64 (z i 0), .int .i64 (z i 1)]
theorem pairs_succ (z : Nat → Nat → Int) (n : Nat) : pairs z (n + 1) = pairs z n ++ [.int .i64 (z n 0), .int .i64 (z n 1)] := by simp [pairs, List.range_succ]
theorem pairs_length (z : Nat → Nat → Int) (n : Nat) : (pairs z n).length = n * 2 := by
  induction n with
  | zero => rfl
  | succ n ih => rw [pairs_succ, List.length_append, ih]; simp; omega
theorem pairs_get (z : Nat → Nat → Int) (n i : Nat) (h : i < n) : (pairs z n)[i * 2]? = some (.int .i64 (z i 0)) ∧ (pairs z n)[i * 2 + 1]? = some (.int .i64 (z i 1)) := by
  induction n with
  | zero => omega
  | succ n ih =>
    have hl := pairs_length z n
    rw [pairs_succ]
    by_cases hi : i < n
    · rw [List.getElem?_append_left (by omega), List.getElem?_append_left (by omega)]
      exact ih hi
    · obtain rfl : i = n := by omega
      rw [List.getElem?_append_right (by omega), List.getElem?_append_right (by omega), hl]
      simp
end Go.Proofs.Ytinmhefkmjlelaa.base

/- What a transaction does, as plain numbers: of no program. An operation is told by three numbers: kind, object, arg; a list by z : which one, which number. -/
namespace Go.Proofs.Ytinmhefkmjlelaa.lg
open Go Go.RowKit Go.Proofs.Ytinmhefkmjlelaa.base

/-- May it be, of n objects? -/
def okB (k o a n : Int) : Bool := if k = 3 ∨ k = 4 then decide (o = 0 ∧ -128 ≤ a ∧ a ≤ 127) else decide (1 ≤ k ∧ k ≤ 5 ∧ 0 ≤ o ∧ o < n ∧ a = 0)

theorem okB_obj {k o a : Int} {n : Nat} (h : okB k o a n = true) (hk : k = 1 ∨ k = 2) : ∃ i : Nat, o = i ∧ i < n := by
  unfold okB at h
  rw [if_neg (by omega)] at h
  simp at h
  exact ⟨o.toNat, by omega, by omega⟩
theorem okB_kind {k o a n : Int} (h : okB k o a n = true) : k = 1 ∨ k = 2 ∨ k = 3 ∨ k = 4 ∨ k = 5 := by
  unfold okB at h
  split at h
  · omega
  · simp at h; omega

/-- The first m may be. -/
def okN (z : Nat → Nat → Int) (n : Int) : Nat → Bool
  | 0 => true
  | m + 1 => okN z n m && okB (z m 0) (z m 1) (z m 2) n
theorem okN_at {z : Nat → Nat → Int} {n : Int} {m : Nat} (h : okN z n m = true) {i : Nat} (hi : i < m) : okB (z i 0) (z i 1) (z i 2) n = true := by
  induction m with
  | zero => omega
  | succ m ih =>
    simp only [okN, Bool.and_eq_true] at h
    by_cases e : i = m
    · subst e; exact h.2
    · exact ih h.1 (by omega)
theorem okN_of {z : Nat → Nat → Int} {n : Int} {m : Nat} (h : ∀ i, i < m → okB (z i 0) (z i 1) (z i 2) n = true) : okN z n m = true := by
  induction m with
  | zero => rfl
  | succ m ih =>
    simp only [okN, Bool.and_eq_true]
    exact ⟨ih fun i hi => h i (by omega), h m (by omega)⟩
theorem okN_false {z : Nat → Nat → Int} {n : Int} {m i : Nat} (hi : i < m) (h : okB (z i 0) (z i 1) (z i 2) n = false) : okN z n m = false := by
  cases e : okN z n m with
  | false => rfl
  | true => rw [okN_at e hi] at h; cases h
theorem okN_le {z : Nat → Nat → Int} {n : Int} {m k : Nat} (h : okN z n m = true) (hk : k ≤ m) : okN z n k = true := okN_of fun i hi => okN_at h (by omega)
theorem okN_first {z : Nat → Nat → Int} {n : Int} {m : Nat} (h : okN z n m = false) : ∃ i, i < m ∧ okN z n i = true ∧ okB (z i 0) (z i 1) (z i 2) n = false := by
  induction m with
  | zero => cases h
  | succ m ih =>
    cases e : okN z n m with
    | false =>
      obtain ⟨i, hi, h1, h2⟩ := ih e
      exact ⟨i, by omega, h1, h2⟩
    | true =>
      refine ⟨m, by omega, e, ?_⟩
      simpa [okN, e] using h

/-- Is it a transaction of n objects? -/
def rightB (z : Nat → Nat → Int) (m : Nat) (n : Int) : Bool := decide (0 < m) && decide (m < 9) && okN z n m

/-- The sum behind one. -/
def sumI (k a s : Int) : Int := if k = 3 then a else if k = 4 then wrap64 (s + a) else s

/-- The sum, and the values, behind the first k of them. -/
def run (z : Nat → Nat → Int) (v : Nat → Int) : Nat → Int × (Nat → Int)
  | 0 => (0, v)
  | k + 1 =>
    let p := run z v k
    if z k 0 = 1 then (p.2 (z k 1).toNat, p.2)
    else if z k 0 = 2 then (p.1, fun i => if i = (z k 1).toNat then p.1 else p.2 i)
    else (sumI (z k 0) (z k 2) p.1, p.2)

/-- How many of the first k read or write. -/
def opens (z : Nat → Nat → Int) : Nat → Nat
  | 0 => 0
  | k + 1 => opens z k + if z k 0 = 1 ∨ z k 0 = 2 then 1 else 0
theorem opens_le (z : Nat → Nat → Int) (k : Nat) : opens z k ≤ k := by
  induction k with
  | zero => exact Nat.le_refl _
  | succ k ih => unfold opens; split <;> omega

/-- The numbers of an operation's cells. -/
def opc (z : Nat → Int) : List Value := [.int .i64 (z 0), .int .i64 (z 1), .int .i64 (z 2)]

/-- The first n operations, as a row of cells. -/
def ops (z : Nat → Nat → Int) (n : Nat) : List Value := (List.range n).flatMap fun i => opc (z i)
theorem ops_succ (z : Nat → Nat → Int) (n : Nat) : ops z (n + 1) = ops z n ++ opc (z n) := by simp [ops, List.range_succ]
theorem ops_length (z : Nat → Nat → Int) (n : Nat) : (ops z n).length = n * 3 := by
  induction n with
  | zero => rfl
  | succ n ih => rw [ops_succ, List.length_append, ih]; simp [opc]; omega
theorem ops_get (z : Nat → Nat → Int) (n i j : Nat) (h : i < n) (hj : j < 3) : (ops z n)[i * 3 + j]? = some (.int .i64 (z i j)) := by
  induction n with
  | zero => omega
  | succ n ih =>
    have hl := ops_length z n
    rw [ops_succ]
    by_cases hi : i < n
    · rw [List.getElem?_append_left (by omega)]
      exact ih hi
    · obtain rfl : i = n := by omega
      rw [List.getElem?_append_right (by omega), hl, show i * 3 + j - i * 3 = j by omega]
      rcases (by omega : j = 0 ∨ j = 1 ∨ j = 2) with rfl | rfl | rfl <;> rfl
theorem ops_congr {z z' : Nat → Nat → Int} {n : Nat} (h : ∀ i j, i < n → j < 3 → z i j = z' i j) : ops z n = ops z' n := by
  induction n with
  | zero => rfl
  | succ n ih => rw [ops_succ, ops_succ, ih (fun i j hi hj => h i j (by omega) hj), opc, opc, h n 0 (by omega) (by omega), h n 1 (by omega) (by omega), h n 2 (by omega) (by omega)]

/-- A slice of operations, wherever it lies: z tells them. -/
def IsOps (w : World) (a : Option Addr) (n : Nat) (z : Nat → Nat → Int) : Prop :=
  n = 0 ∨ ∃ b off, a = some ⟨b, off, none⟩ ∧ b < w.heap.size ∧ ∀ i j, i < n → j < 3 → w.cell? ⟨b, off + (i * 3 + j), none⟩ = some (.int .i64 (z i j))
/-- A slice of numbers, wherever it lies. -/
def IsNums (k : IntKind) (w : World) (a : Option Addr) (n : Nat) (z : Nat → Int) : Prop :=
  n = 0 ∨ ∃ b off, a = some ⟨b, off, none⟩ ∧ b < w.heap.size ∧ ∀ i, i < n → w.cell? ⟨b, off + i, none⟩ = some (.int k (z i))

section
variable {w w' : World} {a : Option Addr} {n : Nat} {z : Nat → Nat → Int} {f : Nat → Int} {k : IntKind}
theorem IsOps.of_ints {cap : Nat} (h : IsInts 3 w a n cap z) : IsOps w a n z := by
  obtain ⟨_, _, h | ⟨b, off, rfl, hb, h⟩⟩ := h
  · exact .inl h
  · exact .inr ⟨b, off, rfl, hb, fun i j hi hj => (h i j hi hj).1⟩
theorem IsNums.of_row {cap : Nat} (h : IsRow k w a n cap f) : IsNums k w a n f := by
  obtain ⟨_, _, h | ⟨b, off, rfl, hb, h⟩⟩ := h
  · exact .inl h
  · exact .inr ⟨b, off, rfl, hb, fun i hi => (h i hi).1⟩
theorem IsOps.keep (h : IsOps w a n z) (g : ∀ b off, a = some ⟨b, off, none⟩ → b < w.heap.size → w'.heap[b]? = w.heap[b]?) (hs : w.heap.size ≤ w'.heap.size) : IsOps w' a n z := by
  rcases h with h | ⟨b, off, rfl, hb, h⟩
  · exact .inl h
  · exact .inr ⟨b, off, rfl, by omega, fun i j hi hj => (World.cell?_of_block (g b off rfl hb)).trans (h i j hi hj)⟩
theorem IsNums.keep (h : IsNums k w a n f) (g : ∀ b off, a = some ⟨b, off, none⟩ → b < w.heap.size → w'.heap[b]? = w.heap[b]?) (hs : w.heap.size ≤ w'.heap.size) : IsNums k w' a n f := by
  rcases h with h | ⟨b, off, rfl, hb, h⟩
  · exact .inl h
  · exact .inr ⟨b, off, rfl, by omega, fun i hi => (World.cell?_of_block (g b off rfl hb)).trans (h i hi)⟩
theorem IsOps.grown (h : IsOps w a n z) (g : w.grownBy w' none) : IsOps w' a n z := h.keep (fun b _ _ hb => g.block b hb (by simp)) g.size
theorem IsNums.grown (h : IsNums k w a n f) (g : w.grownBy w' none) : IsNums k w' a n f := h.keep (fun b _ _ hb => g.block b hb (by simp)) g.size
theorem IsOps.below (h : IsOps w a n z) (g : Below w.heap.size w w') : IsOps w' a n z := h.keep (fun b _ _ hb => g.block b hb) g.size
theorem IsNums.below (h : IsNums k w a n f) (g : Below w.heap.size w w') : IsNums k w' a n f := h.keep (fun b _ _ hb => g.block b hb) g.size
theorem IsOps.less (h : IsOps w a n z) {m : Nat} (hm : m ≤ n) : IsOps w a m z := by
  rcases h with h | ⟨b, off, rfl, hb, h⟩
  · exact .inl (by omega)
  · exact .inr ⟨b, off, rfl, hb, fun i j hi hj => h i j (by omega) hj⟩
theorem IsOps.congr (h : IsOps w a n z) {z' : Nat → Nat → Int} (e : ∀ i j, i < n → j < 3 → z i j = z' i j) : IsOps w a n z' := by
  rcases h with h | ⟨b, off, rfl, hb, h⟩
  · exact .inl h
  · exact .inr ⟨b, off, rfl, hb, fun i j hi hj => by rw [← e i j hi hj]; exact h i j hi hj⟩
theorem IsNums.congr (h : IsNums k w a n f) {f' : Nat → Int} (e : ∀ i, i < n → f i = f' i) : IsNums k w a n f' := by
  rcases h with h | ⟨b, off, rfl, hb, h⟩
  · exact .inl h
  · exact .inr ⟨b, off, rfl, hb, fun i hi => by rw [← e i hi]; exact h i hi⟩
/-- What one owns is one. -/
theorem IsOps.of_own {base : Nat} {e : TypeId} {cap : Nat} (h : w.ownsRow base e 3 (.slice a n cap) n (ops z n)) : IsOps w a n z := by
  rcases h.2 with ⟨_, h0⟩ | ⟨g, cap2, cur, e, hb, hg, _⟩
  · exact .inl h0
  · injection e with e1 e2 e3
    subst e1
    refine .inr ⟨g, 0, rfl, lt_of_block hg, fun i j hi hj => ?_⟩
    rw [Nat.zero_add]
    exact (h.cellAt (i * 3 + j) (by omega)).trans (ops_get z n i j hi hj)
theorem IsNums.of_own {base : Nat} {e : TypeId} {cap : Nat} (h : w.ownsRow base e 1 (.slice a n cap) n ((List.range n).map fun i => .int k (f i))) : IsNums k w a n f := by
  rcases h.2 with ⟨_, h0⟩ | ⟨g, cap2, cur, e, hb, hg, _⟩
  · exact .inl h0
  · injection e with e1 e2 e3
    subst e1
    refine .inr ⟨g, 0, rfl, lt_of_block hg, fun i hi => ?_⟩
    rw [Nat.zero_add]
    refine (h.cellAt i (by omega)).trans ?_
    simp [hi]
theorem IsOps.of_blk {t : TypeId} {b : Nat} (h : Blk t w b ⟨ops z n⟩) : IsOps w (some ⟨b, 0, none⟩) n z := by
  refine .inr ⟨b, 0, rfl, h.lt, fun i j hi hj => ?_⟩
  rw [Nat.zero_add, h.cell]
  simpa using ops_get z n i j hi hj
theorem IsNums.of_blk {t : TypeId} {b : Nat} (h : Blk t w b ⟨(List.range n).map fun i => Value.int k (f i)⟩) : IsNums k w (some ⟨b, 0, none⟩) n f := by
  refine .inr ⟨b, 0, rfl, h.lt, fun i hi => ?_⟩
  rw [Nat.zero_add, h.cell]
  simp [hi]
/-- One of them. -/
theorem IsOps.at3 (h : IsOps w a n z) {i : Nat} (hi : i < n) : ∃ b off, a = some ⟨b, off, none⟩ ∧ b < w.heap.size ∧ w.cell? ⟨b, off + i * 3, none⟩ = some (.int .i64 (z i 0)) ∧ w.cell? ⟨b, off + i * 3 + 1, none⟩ = some (.int .i64 (z i 1)) ∧ w.cell? ⟨b, off + i * 3 + 2, none⟩ = some (.int .i64 (z i 2)) := by
  rcases h with h | ⟨b, off, rfl, hb, h⟩
  · omega
  · exact ⟨b, off, rfl, hb, h i 0 hi (by omega), h i 1 hi (by omega), h i 2 hi (by omega)⟩
theorem IsNums.at1 (h : IsNums k w a n f) {i : Nat} (hi : i < n) : ∃ b off, a = some ⟨b, off, none⟩ ∧ b < w.heap.size ∧ w.cell? ⟨b, off + i, none⟩ = some (.int k (f i)) := by
  rcases h with h | ⟨b, off, rfl, hb, h⟩
  · omega
  · exact ⟨b, off, rfl, hb, h i hi⟩
/-- As the source of an append. -/
theorem IsOps.src (h : IsOps w a n z) : (n = 0 ∧ ops z n = []) ∨ ∃ ad, a = some ad ∧ ∀ j u, (ops z n)[j]? = some u → w.cell? (ad.add j) = some u := by
  rcases h with rfl | ⟨b, off, rfl, hb, h⟩
  · exact .inl ⟨rfl, rfl⟩
  · refine .inr ⟨_, rfl, fun j u hj => ?_⟩
    have hlt := (List.getElem?_eq_some_iff.1 hj).1
    rw [ops_length] at hlt
    have e : j = j / 3 * 3 + j % 3 := by omega
    rw [e, ops_get z n (j / 3) (j % 3) (by omega) (by omega)] at hj
    rw [add_eq, e]
    exact (h (j / 3) (j % 3) (by omega) (by omega)).trans hj
theorem IsNums.src (h : IsNums k w a n f) : (n = 0 ∧ ((List.range n).map fun i => Value.int k (f i)) = []) ∨ ∃ ad, a = some ad ∧ ∀ j u, ((List.range n).map fun i => Value.int k (f i))[j]? = some u → w.cell? (ad.add j) = some u := by
  rcases h with rfl | ⟨b, off, rfl, hb, h⟩
  · exact .inl ⟨rfl, rfl⟩
  · refine .inr ⟨_, rfl, fun j u hj => ?_⟩
    have hlt := (List.getElem?_eq_some_iff.1 hj).1
    simp only [List.length_map, List.length_range] at hlt
    simp [hlt] at hj
    rw [add_eq, ← hj]
    exact h j hlt
end

/-- The first n numbers of f, as bytes. -/
def u8s (f : Nat → Int) (n : Nat) : List Value := (List.range n).map fun i => Value.int .u8 (f i)
theorem u8s_succ3 (f : Nat → Int) (n : Nat) : u8s f (n + 3) = u8s f n ++ [.int .u8 (f n), .int .u8 (f (n + 1)), .int .u8 (f (n + 2))] := by simp [u8s, List.range_succ]
theorem u8s_length (f : Nat → Int) (n : Nat) : (u8s f n).length = n := by simp [u8s]
theorem u8s_congr {f g : Nat → Int} {n : Nat} (h : ∀ i, i < n → f i = g i) : u8s f n = u8s g n := List.map_congr_left fun i hi => by rw [h i (by simpa using hi)]
/-- The bytes of operations. -/
def pb (z : Nat → Nat → Int) (j : Nat) : Int := z (j / 3) (j % 3) % 256
theorem pb0 (z : Nat → Nat → Int) (k : Nat) : pb z (k * 3) = z k 0 % 256 := by unfold pb; rw [show k * 3 / 3 = k by omega, show k * 3 % 3 = 0 by omega]
theorem pb1 (z : Nat → Nat → Int) (k : Nat) : pb z (k * 3 + 1) = z k 1 % 256 := by unfold pb; rw [show (k * 3 + 1) / 3 = k by omega, show (k * 3 + 1) % 3 = 1 by omega]
theorem pb2 (z : Nat → Nat → Int) (k : Nat) : pb z (k * 3 + 2) = z k 2 % 256 := by unfold pb; rw [show (k * 3 + 2) / 3 = k by omega, show (k * 3 + 2) % 3 = 2 by omega]
/-- A byte of two's complement. -/
def s8 (x : Int) : Int := if 127 < x then x - 256 else x
/-- The operations of bytes. -/
def gz (f : Nat → Int) (i j : Nat) : Int := if j = 2 then s8 (f (i * 3 + 2)) else f (i * 3 + j)

theorem one_ops (z : Nat → Nat → Int) (n : Nat) : ∀ u ∈ ops z n, u.oneCell' = true := by
  intro u hu
  obtain ⟨i, _, hi⟩ := List.mem_flatMap.1 hu
  simp only [opc, List.mem_cons, List.not_mem_nil, or_false] at hi
  rcases hi with rfl | rfl | rfl <;> rfl
theorem one_nums (k : IntKind) (f : Nat → Int) (n : Nat) : ∀ u ∈ (List.range n).map (fun i => Value.int k (f i)), u.oneCell' = true := by
  intro u hu
  obtain ⟨_, _, rfl⟩ := List.mem_map.1 hu
  rfl

theorem ownsRow_drop {base base' : Nat} {e : TypeId} {sz : Nat} {w : World} {v : Value} {n : Nat} {xs : List Value} (h : w.ownsRow base e sz v n xs) (hb : base' ≤ base) : w.ownsRow base' e sz v n xs := by
  refine ⟨h.1, ?_⟩
  rcases h.2 with hn | ⟨g, cap, cur, rfl, h4, h5, rest⟩
  · exact .inl hn
  · exact .inr ⟨g, cap, cur, rfl, Nat.le_trans hb h4, h5, rest⟩
/-- How much room it has. -/
theorem row_cap {base : Nat} {e : TypeId} {sz : Nat} {w : World} {a : Option Addr} {n cap : Nat} {xs : List Value} (h : w.ownsRow base e sz (.slice a n cap) n xs) : n ≤ cap ∧ cap ≤ maxLen := by
  rcases h.2 with ⟨e, h0⟩ | ⟨g, c, cur, e, _, _, h6, h7, _⟩
  · injection e with _ e2 e3
    subst e3
    exact ⟨by omega, by unfold maxLen; omega⟩
  · injection e with _ e2 e3
    subst e3
    exact ⟨h6, h7⟩
theorem bytes_of {w : World} {a : Option Addr} {n cap : Nat} {f : Nat → Int} (h : IsRow .u8 w a n cap f) : ∀ i, i < n → 0 ≤ f i ∧ f i ≤ 255 := by
  intro i hi
  obtain ⟨_, _, h | ⟨b, off, rfl, _, h⟩⟩ := h
  · omega
  · exact bounds_u8 (h i hi).2

/-- A block that was made just now, as the source of an append. -/
theorem new_src (w : World) (l : List Value) (e : TypeId) (H : Nat) (h : w.heap.size = H) {m : Nat} : (m = 0 ∧ l = []) ∨ ∃ ad, (some ⟨H, 0, none⟩ : Option Addr) = some ad ∧ ∀ j u, l[j]? = some u → (w.alloc (.cells l.toArray e)).cell? (ad.add j) = some u := by
  subst h
  exact .inr ⟨_, rfl, fun j u hu => new_cells w l e j u hu⟩

/-- append onto a slice of one's own, of whatever slice, of nothing, too. -/
theorem run_append_any {P : Program} (w : World) (base : Nat) (t ty e : TypeId) (i : TypeInfo) (z : Value) (size bytes : Nat) (ht : P.underlying t = some (.slice e)) (hi : P.info? e = some i) (hz : i.zero = some z)
    (hsize : i.size = size) (hby : i.bytes = bytes) (hzs : z.cells.size = size) (hsz : 0 < size)
    (v : Value) (n : Nat) (xs : List Value) (hown : w.ownsRow base e size v n xs)
    (ao : Option Addr) (m c : Nat) (news : List Value) (hl : news.length = m * size) (hsrc : (m = 0 ∧ news = []) ∨ ∃ ad, ao = some ad ∧ ∀ j u, news[j]? = some u → w.cell? (ad.add j) = some u) (h1 : ∀ u ∈ news, u.oneCell' = true)
    (h63 : n + m ≤ maxLen) (hbytes : (n + m) * bytes ≤ 140737488355328) (hbase : base ≤ w.heap.size) :
    ∃ v' w', (Builtin.append_ #[t, t] ty #[v, .slice ao m c]).run P w = .ok v' w' ∧ w'.ownsRow base e size v' (n + m) (xs ++ news) ∧ w.grownBy w' v.ownBlock ∧
      (v'.ownBlock = v.ownBlock ∨ ∃ k, v'.ownBlock = some k ∧ w.heap.size ≤ k) := by
  by_cases hao : ∃ ad, ao = some ad
  · obtain ⟨ad, rfl⟩ := hao
    refine run_append_at w base t ty e i z size bytes ht hi hz hsize hby hzs hsz v n xs hown ad m c news hl ?_ h1 h63 hbytes hbase
    rcases hsrc with ⟨rfl, rfl⟩ | ⟨ad', e', h⟩
    · intro j u h'; simp at h'
    · cases e'; exact h
  · obtain rfl : ao = none := by
      cases ao with
      | none => rfl
      | some ad => exact absurd ⟨ad, rfl⟩ hao
    rcases hsrc with ⟨rfl, rfl⟩ | ⟨ad', e', h⟩
    · obtain ⟨sb, cap, rfl, hle⟩ : ∃ sb cap, v = .slice sb n cap ∧ n ≤ cap := by
        rcases hown.2 with ⟨rfl, rfl⟩ | ⟨g, cap, cur, rfl, _, _, hnc, _⟩
        · exact ⟨none, 0, rfl, Nat.le_refl _⟩
        · exact ⟨_, cap, rfl, hnc⟩
      subst hsize
      exact ⟨_, _, run_append_nothing (P := P) w t t ty e i ht hi sb n cap hle _ (Src.ofNil (P := P) w ht c), by simpa using hown, gb_refl _ _, .inl rfl⟩
    · cases e'

theorem wpList_append_any {P : Program} (w : World) {ops : Array Oper} {rest : List Oper} {o : Oper} {a : Act} {Q : Exit → Act → World → Prop}
    (hgd : o.guard = none) (s x : Operand) (t : TypeId) (hop : o.op = Op.call { callee := Callee.builtin Builtin.append, args := #[s, x], argTypes := #[t, t] })
    (base : Nat) (e : TypeId) (i : TypeInfo) (z : Value) (size bytes : Nat) (h1 : P.underlying t = some (.slice e)) (h2 : P.info? e = some i) (h3 : i.zero = some z) (h4 : i.size = size) (h5 : i.bytes = bytes) (h6 : z.cells.size = size) (h7 : 0 < size)
    (v : Value) (n : Nat) (xs : List Value) (hs : a.eval s = v) (hown : w.ownsRow base e size v n xs)
    (ao : Option Addr) (m c : Nat) (news : List Value) (hx : a.eval x = .slice ao m c) (hl : news.length = m * size) (hsrc : (m = 0 ∧ news = []) ∨ ∃ ad, ao = some ad ∧ ∀ j u, news[j]? = some u → w.cell? (ad.add j) = some u) (h1c : ∀ u ∈ news, u.oneCell' = true)
    (h63 : n + m ≤ maxLen) (hbytes : (n + m) * bytes ≤ 140737488355328) (hbase : base ≤ w.heap.size)
    (hK : ∀ b' cap w', w'.ownsRow base e size (.slice b' (n + m) cap) (n + m) (xs ++ news) → w.grownBy w' v.ownBlock → ((Value.slice b' (n + m) cap).ownBlock = v.ownBlock ∨ ∃ k, (Value.slice b' (n + m) cap).ownBlock = some k ∧ w.heap.size ≤ k) → wpList P ops Q rest (a.put o.dst (.slice b' (n + m) cap)) w') :
    wpList P ops Q (o :: rest) a w := by
  refine wpList_plain hgd fun K hK' => ?_
  obtain ⟨v', w', hrun, r1, r2, r3⟩ := run_append_any (P := P) w base t o.type e i z size bytes h1 h2 h3 h4 h5 h6 h7 v n xs hown ao m c news hl hsrc h1c h63 hbytes hbase
  obtain ⟨b', cap, rfl⟩ : ∃ b' cap, v' = .slice b' (n + m) cap := by
    rcases r1.2 with ⟨rfl, h0⟩ | ⟨g, cap, cur, rfl, _⟩
    · exact ⟨none, 0, by rw [h0]⟩
    · exact ⟨_, cap, rfl⟩
  unfold Oper.wp
  simp [execOp, hop, resolve, invoke, builtin, hs, hx, hrun, Result.andThen]
  exact hK' _ _ (hK b' cap w' r1 r2 r3)
end Go.Proofs.Ytinmhefkmjlelaa.lg

/- What a walk is told of an argument that is a list of lists of lists of operations. -/
namespace Go.Proofs.Ytinmhefkmjlelaa.md
open Go Go.RowKit Go.ChangeShapes Go.WideShapes Go.Deep Go.Proofs.Ytinmhefkmjlelaa.base Go.Proofs.Ytinmhefkmjlelaa.lg
set_option linter.unusedVariables false
set_option maxRecDepth 100000

section
variable {H : Type} {enc : TypeId × Value → H} {P : Program} {w : World} {base : Nat} {held : Bool} {t : TypeId} {fuel : Nat} {x : DataW H × List MemPlace}
/-- The cells of a struct of ints and bools, of several types. -/
theorem plain_wf {fs : Array Field} {n : Nat} {isB : Nat → Bool} {cs : List Value} (he : P.underlying t = some (.struct fs))
    (hfs : ∀ j, j < n → ∃ ti, (fs[j]?.map fun f => (f.offset, f.type)) = some (j, ti) ∧ P.cellsOf ti = 1 ∧ P.underlying ti = some (if isB j then .bool else .int .i64))
    (h : DataW.trod enc P w base (fun _ => true) held fuel t cs = some x) : ∃ (z : Nat → Int) (y : Nat → Bool), ∀ j, j < n → cs[j]? = some (mixed isB z y j) ∧ (Lit.int .i64 (z j)).wf = true := by
  obtain ⟨xs, n', _, _, hl1, _, hf⟩ := DataW.trod_struct he h
  obtain ⟨g, hg⟩ := choose_lt (α := Int × Bool) (n := n) (p := fun j v => cs[j]? = some (if isB j then .bool v.2 else .int .i64 v.1) ∧ (Lit.int .i64 v.1).wf = true) (fun j hj => by
    obtain ⟨ti, e1, hc, hu⟩ := hfs j hj
    obtain ⟨fj, hfj, e2⟩ := Option.map_eq_some_iff.1 e1
    simp only [Prod.mk.injEq] at e2
    have e3 := hf j fj hfj
    rw [e2.1, e2.2, hc] at e3
    have hxs : j < xs.length := by
      rcases Nat.lt_or_ge j xs.length with h' | h'
      · exact h'
      · have := (Array.getElem?_eq_some_iff.1 hfj).1
        omega
    rw [List.getElem?_eq_getElem hxs] at e3
    have key : ∀ v : Value, (cs.drop j).take 1 = [v] → cs[j]? = some v := fun v hv => by
      have h0 : ((cs.drop j).take 1)[0]? = some v := by rw [hv]; rfl
      simpa using h0
    by_cases hB : isB j = true
    · rw [if_pos hB] at hu
      obtain ⟨v, hv, _⟩ := DataW.trod_bool hu e3
      exact ⟨(0, v), by rw [if_pos hB]; exact key _ hv, (by decide : (Lit.int .i64 0).wf = true)⟩
    · rw [if_neg hB] at hu
      obtain ⟨v, hv, _, hw⟩ := DataW.trod_int hu e3
      exact ⟨(v, false), by rw [if_neg hB]; exact key _ hv, hw⟩)
  exact ⟨fun j => (g j).1, fun j => (g j).2, fun j hj => hg j hj⟩
end

/-- A transaction: how many operations, and which. -/
structure Txn where
  n : Nat
  z : Nat → Nat → Int
instance : Inhabited Txn := ⟨⟨0, fun _ _ => 0⟩⟩

/-- The things of l lie where a says, a cell each, as p says. -/
def Lies {α : Type} (w : World) (p : α → Value → Prop) (a : Option Addr) (l : List α) : Prop :=
  l = [] ∨ ∃ b off, a = some ⟨b, off, none⟩ ∧ b < w.heap.size ∧ ∀ i y, l[i]? = some y → ∃ v, w.cell? ⟨b, off + i, none⟩ = some v ∧ p y v
theorem Lies.keep {α : Type} {w w' : World} {p q : α → Value → Prop} {a : Option Addr} {l : List α} (h : Lies w p a l) (hp : ∀ y v, p y v → q y v) (g : w.grownBy w' none) : Lies w' q a l := by
  rcases h with h | ⟨b, off, h1, h2, h3⟩
  · exact .inl h
  · refine .inr ⟨b, off, h1, Nat.lt_of_lt_of_le h2 g.size, fun i y hy => ?_⟩
    obtain ⟨v, h4, h5⟩ := h3 i y hy
    exact ⟨v, g.cell h4 (by simp), hp _ _ h5⟩
theorem Lies.at {α : Type} {w : World} {p : α → Value → Prop} {a : Option Addr} {l : List α} (h : Lies w p a l) {i : Nat} {y : α} (hy : l[i]? = some y) : ∃ b off v, a = some ⟨b, off, none⟩ ∧ b < w.heap.size ∧ w.cell? ⟨b, off + i, none⟩ = some v ∧ p y v := by
  rcases h with h | ⟨b, off, h1, h2, h3⟩
  · rw [h] at hy; simp at hy
  · obtain ⟨v, h4, h5⟩ := h3 i y hy
    exact ⟨b, off, v, h1, h2, h4, h5⟩

def pOp (w : World) (x : Txn) (v : Value) : Prop := ∃ a c, v = .slice a x.n c ∧ IsOps w a x.n x.z
def pTx (w : World) (l : List Txn) (v : Value) : Prop := ∃ a c, v = .slice a l.length c ∧ Lies w (pOp w) a l
/-- All transactions, by thread and number. -/
def IsAll (w : World) (a : Option Addr) (A : List (List Txn)) : Prop := Lies w (pTx w) a A
theorem pOp.grown {w w' : World} {x : Txn} {v : Value} (h : pOp w x v) (g : w.grownBy w' none) : pOp w' x v := by
  obtain ⟨a, c, h1, h2⟩ := h
  exact ⟨a, c, h1, h2.grown g⟩
theorem pTx.grown {w w' : World} {l : List Txn} {v : Value} (h : pTx w l v) (g : w.grownBy w' none) : pTx w' l v := by
  obtain ⟨a, c, h1, h2⟩ := h
  exact ⟨a, c, h1, h2.keep (fun _ _ h => h.grown g) g⟩
theorem IsAll.grown {w w' : World} {a : Option Addr} {A : List (List Txn)} (h : IsAll w a A) (g : w.grownBy w' none) : IsAll w' a A := Lies.keep h (fun _ _ h => h.grown g) g

section
variable {H : Type} {enc : TypeId × Value → H} {P : Program} {w : World} {base : Nat} {held : Bool} {t e : TypeId} {fuel : Nat} {x : DataW H × List MemPlace}
/-- A slice of things of one cell each. -/
theorem slice1_of {α : Type} [Inhabited α] {p : α → Value → Prop} (ht : P.underlying t = some (.slice e)) (hc : P.cellsOf e = 1) (elem : ∀ (f : Nat) (cs : List Value) (x : DataW H × List MemPlace), DataW.trod enc P w base (fun _ => true) held f e cs = some x → ∃ (y : α) (v : Value), cs = [v] ∧ p y v) {cs : List Value}
    (h : DataW.trod enc P w base (fun _ => true) held fuel t cs = some x) : ∃ (a : Option Addr) (cap : Nat) (l : List α), cs = [.slice a l.length cap] ∧ l.length ≤ cap ∧ cap ≤ maxLen ∧ Lies w p a l := by
  rcases open_slice ht h with ⟨hcs, _⟩ | ⟨c, len, cap, k, f, D, Pl, hcs, _, hl, hm, hk, _, hel⟩
  · exact ⟨none, 0, [], hcs, Nat.le_refl _, Nat.zero_le _, .inl rfl⟩
  · simp only [if_true] at hk
    subst hk
    rw [hc] at hel
    obtain ⟨g, hg⟩ := choose_lt (α := α) (n := len) (p := fun i y => ∃ v, w.cell? (c.add i) = some v ∧ p y v) (fun i hi' => by
      obtain ⟨cs', h1, h2⟩ := hel i (by omega)
      obtain ⟨_, hlen, hcell⟩ := World.cells?_some h1
      obtain ⟨y, v, h3, h4⟩ := elem _ _ _ h2
      refine ⟨y, v, ?_, h4⟩
      have h5 := hcell 0 (by omega)
      rw [h3] at h5
      rw [add_add] at h5
      simpa using h5)
    refine ⟨some c, k, (List.range len).map g, by simpa using hcs, by simpa using hl, hm, ?_⟩
    by_cases h0 : len = 0
    · subst h0; exact .inl rfl
    · obtain ⟨v0, hv0, _⟩ := hg 0 (by omega)
      obtain ⟨b, off, hbo⟩ := plain_of hv0
      have hb := World.block_lt_of_cell? _ _ hv0
      have hc0 : c = ⟨b, off, none⟩ := by simpa [Addr.add] using hbo
      subst hc0
      refine .inr ⟨b, off, rfl, by simpa [Addr.add] using hb, fun i y hy => ?_⟩
      have hi : i < len := by have := (List.getElem?_eq_some_iff.1 hy).1; simpa using this
      have hy2 : y = g i := by simp [hi] at hy; exact hy.symm
      subst hy2
      obtain ⟨v, h1, h2⟩ := hg i hi
      exact ⟨v, by rw [← add_eq]; exact h1, h2⟩
end

section
variable {H : Type} {enc : TypeId × Value → H} {w : World} {base : Nat} {held : Bool} {fuel : Nat} {x : DataW H × List MemPlace}
theorem ops_of {cs : List Value} (h : DataW.trod enc Try.prog w base (fun _ => true) held fuel 60 cs = some x) : ∃ (y : Txn) (v : Value), cs = [v] ∧ pOp w y v := by
  rcases open_slice Try.underlying60 h with ⟨hcs, _⟩ | ⟨c, len, cap, k, f, D, Pl, hcs, _, hl, hm, hk, _, hel⟩
  · exact ⟨⟨0, fun _ _ => 0⟩, _, hcs, none, 0, rfl, .inl rfl⟩
  · simp only [if_true] at hk
    subst hk
    have k3 : Try.prog.cellsOf 77 = 3 := by kernel_rfl
    rw [k3] at hel
    obtain ⟨z, hz⟩ := choose_lt (α := Nat → Int) (n := len) (p := fun i y => ∀ j, j < 3 → w.cell? (c.add (i * 3 + j)) = some (.int .i64 (y j))) (fun i hi' => by
      obtain ⟨cs', h1, h2⟩ := hel i (by omega)
      obtain ⟨_, hlen, hcell⟩ := World.cells?_some h1
      obtain ⟨z, y, h3⟩ := plain_wf (n := 3) (isB := fun _ => false) Try.underlying77 (by
        intro j hj
        rcases (by omega : j = 0 ∨ j = 1 ∨ j = 2) with rfl | rfl | rfl
        · exact ⟨_, rfl, by kernel_rfl, by kernel_rfl⟩
        · exact ⟨_, rfl, by kernel_rfl, by kernel_rfl⟩
        · exact ⟨_, rfl, by kernel_rfl, by kernel_rfl⟩) h2
      refine ⟨z, fun j hj => ?_⟩
      rw [← add_add, hcell j (by omega)]
      exact (h3 j hj).1)
    refine ⟨⟨len, z⟩, _, hcs, some c, k, rfl, ?_⟩
    by_cases h0 : len = 0
    · exact .inl h0
    · obtain ⟨b, off, hbo⟩ := plain_of (hz 0 (by omega) 0 (by omega))
      have hb := World.block_lt_of_cell? _ _ (hz 0 (by omega) 0 (by omega))
      have hc0 : c = ⟨b, off, none⟩ := by simpa [Addr.add] using hbo
      subst hc0
      exact .inr ⟨b, off, rfl, by simpa [Addr.add] using hb, fun i j hi hj => by rw [← add_eq]; exact hz i hi j hj⟩
theorem txs_of {cs : List Value} (h : DataW.trod enc Try.prog w base (fun _ => true) held fuel 59 cs = some x) : ∃ (y : List Txn) (v : Value), cs = [v] ∧ pTx w y v := by
  obtain ⟨a, cap, l, h1, _, _, h2⟩ := slice1_of (α := Txn) (p := pOp w) Try.underlying59 (by kernel_rfl) (fun f cs x h => ops_of h) h
  exact ⟨l, _, h1, a, cap, rfl, h2⟩
theorem all_of {a : Option Addr} {len cap : Nat} (h : DataW.trod enc Try.prog w base (fun _ => true) held fuel 27 (Value.slice a len cap).cells.toList = some x) : ∃ A : List (List Txn), len = A.length ∧ IsAll w a A := by
  obtain ⟨a', cap', l, h1, _, _, h2⟩ := slice1_of (α := List Txn) (p := pTx w) Try.underlying27 (by kernel_rfl) (fun f cs x h => txs_of h) h
  simp [Value.cells] at h1
  obtain ⟨rfl, rfl, rfl⟩ := h1
  exact ⟨l, rfl, h2⟩
end
end Go.Proofs.Ytinmhefkmjlelaa.md

/- Scripts and their bytes, in plain numbers: what is put, what is got, and that the one undoes the other. Of no program, and of no memory. -/
namespace Go.Proofs.Ytinmhefkmjlelaa.sc
open Go Go.Proofs.Ytinmhefkmjlelaa.lg
set_option linter.unusedVariables false
set_option linter.unusedSimpArgs false

/-- An operation: kind, object, arg. -/
structure Op3 where
  k : Int
  o : Int
  a : Int
deriving Inhabited, DecidableEq

/-- A config: objects, threads, records, tickets, manager, wait. -/
structure Cfg where
  ob : Int
  th : Int
  re : Int
  ti : Int
  ma : Int
  wa : Int
deriving Inhabited, DecidableEq

structure Scr where
  c : Cfg
  first : List Int
  draws : List Int
  all : List (List (List Op3))
  picks : List Int
deriving Inhabited, DecidableEq

/-- May a config be? -/
def Cfg.ok (c : Cfg) : Bool := decide (1 ≤ c.ob ∧ c.ob ≤ 8) && decide (1 ≤ c.th ∧ c.th ≤ 6) && decide (1 ≤ c.re ∧ c.re ≤ 4096) && decide (0 ≤ c.ti ∧ c.ti ≤ 255) && decide (1 ≤ c.ma ∧ c.ma ≤ 4) && decide (1 ≤ c.wa ∧ c.wa ≤ 64)
theorem Cfg.ok_iff {c : Cfg} : c.ok = true ↔ (1 ≤ c.ob ∧ c.ob ≤ 8) ∧ (1 ≤ c.th ∧ c.th ≤ 6) ∧ (1 ≤ c.re ∧ c.re ≤ 4096) ∧ (0 ≤ c.ti ∧ c.ti ≤ 255) ∧ (1 ≤ c.ma ∧ c.ma ≤ 4) ∧ (1 ≤ c.wa ∧ c.wa ≤ 64) := by
  unfold Cfg.ok
  simp [and_assoc]

def Op3.ok (n : Int) (o : Op3) : Bool := okB o.k o.o o.a n
/-- May a transaction be, of n objects? -/
def txOk (n : Int) (l : List Op3) : Bool := decide (0 < l.length) && decide (l.length < 9) && l.all (Op3.ok n)
def thOk (n : Int) (l : List (List Op3)) : Bool := decide (l.length ≤ 6) && l.all (txOk n)
def Scr.ok (s : Scr) : Bool := s.c.ok && decide ((s.first.length : Int) = s.c.ob) && decide (2 * (s.first.length : Int) ≤ s.c.re) && s.first.all (fun x => decide (-128 ≤ x ∧ x ≤ 127)) && decide ((s.all.length : Int) = s.c.th) && s.all.all (thOk s.c.ob) && decide (s.draws.length ≤ 255) && s.draws.all (fun x => decide (0 ≤ x ∧ x ≤ 255)) && s.picks.all (fun x => decide (0 ≤ x ∧ x ≤ 255))

/-- A byte's number, and a number's byte. -/
def sg (b : Int) : Int := if 127 < b then b - 256 else b
def low (n : Int) : Int := if n < 0 then n + 256 else n
theorem sg_low {n : Int} (h : -128 ≤ n ∧ n ≤ 127) : sg (low n) = n := by
  unfold sg low
  split <;> split <;> omega
theorem low_sg {b : Int} (h : 0 ≤ b ∧ b ≤ 255) : low (sg b) = b := by
  unfold sg low
  split <;> split <;> omega
theorem low_byte {n : Int} (h : -128 ≤ n ∧ n ≤ 127) : 0 ≤ low n ∧ low n ≤ 255 := by
  unfold low
  split <;> omega

/-- What is put. -/
def opB (o : Op3) : List Int := [o.k, o.o, low o.a]
def txB (l : List Op3) : List Int := (l.length : Int) :: l.flatMap opB
def thB (l : List (List Op3)) : List Int := (l.length : Int) :: l.flatMap txB
def cfB (c : Cfg) : List Int := [c.ob, c.th, c.re / 256, c.re % 256, c.ti, c.ma, c.wa]
def headB (s : Scr) : List Int := cfB s.c ++ (s.first.flatMap (fun x => [low x]) ++ (s.all.flatMap thB ++ ((s.draws.length : Int) :: s.draws.flatMap fun x => [x])))
def putS (s : Scr) : List Int := headB s ++ s.picks

/-- A part that is got from a place on: what, and the place behind it; or a place and an error. -/
abbrev Part (α : Type) := List Int → Nat → Except (Nat × Int) (α × Nat)
def at0 (L : List Int) (i : Nat) : Int := L.getD i 0
/-- So many, one behind the other. -/
def rep {α : Type} (p : Part α) : Nat → Part (List α)
  | 0, _, i => .ok ([], i)
  | m + 1, L, i => match rep p m L i with
    | .error e => .error e
    | .ok (l, j) => match p L j with
      | .error e => .error e
      | .ok (x, k) => .ok (l ++ [x], k)
def byteP : Part Int := fun L i => if L.length ≤ i then .error (L.length, 9) else .ok (at0 L i, i + 1)
def sgP : Part Int := fun L i => if L.length ≤ i then .error (L.length, 9) else .ok (sg (at0 L i), i + 1)
def opP (n : Int) : Part Op3 := fun L i =>
  if L.length < i + 3 then .error (L.length, 9)
  else if Op3.ok n ⟨at0 L i, at0 L (i + 1), sg (at0 L (i + 2))⟩ = true then .ok (⟨at0 L i, at0 L (i + 1), sg (at0 L (i + 2))⟩, i + 3)
  else .error (i, 3)
def txP (n : Int) : Part (List Op3) := fun L i =>
  if L.length ≤ i then .error (L.length, 9)
  else if at0 L i < 1 ∨ 8 < at0 L i then .error (i, 3)
  else rep (opP n) (at0 L i).toNat L (i + 1)
def thP (n : Int) : Part (List (List Op3)) := fun L i =>
  if L.length ≤ i then .error (L.length, 9)
  else if 6 < at0 L i then .error (i, 3)
  else rep (txP n) (at0 L i).toNat L (i + 1)
/-- The draws: as many as the first byte says. -/
def drP : Part (List Int) := fun L i =>
  if L.length ≤ i then .error (L.length, 9)
  else rep byteP (at0 L i).toNat L (i + 1)
def cfOf (L : List Int) : Cfg := ⟨at0 L 0, at0 L 1, at0 L 2 * 256 + at0 L 3, at0 L 4, at0 L 5, at0 L 6⟩
/-- What is got: a script, or a place and an error. -/
def getS (L : List Int) : Except (Nat × Int) Scr :=
  if L.length < 7 then .error (L.length, 9)
  else if (cfOf L).ok = false then .error (0, 2)
  else if (cfOf L).re < 2 * (cfOf L).ob then .error (2, 4)
  else match rep sgP (cfOf L).ob.toNat L 7 with
    | .error e => .error e
    | .ok (f, i) => match rep (thP (cfOf L).ob) (cfOf L).th.toNat L i with
      | .error e => .error e
      | .ok (a, j) => match drP L j with
        | .error e => .error e
        | .ok (d, k) => .ok ⟨cfOf L, f, d, a, L.drop k⟩

/-- A part reads w as x, wherever w stands. -/
def Reads {α : Type} (p : Part α) (w : List Int) (x : α) : Prop := ∀ pre post : List Int, p (pre ++ (w ++ post)) pre.length = .ok (x, pre.length + w.length)
theorem at0_pre (pre w post : List Int) (i : Nat) (h : i < w.length) : at0 (pre ++ (w ++ post)) (pre.length + i) = at0 w i := by
  unfold at0
  rw [List.getD_eq_getElem?_getD, List.getD_eq_getElem?_getD, List.getElem?_append_right (by omega), Nat.add_sub_cancel_left, List.getElem?_append_left h]

theorem rep_rev {α : Type} {p : Part α} {f : α → List Int} : ∀ (ys : List α), (∀ x ∈ ys, Reads p (f x) x) → Reads (rep p ys.length) (ys.reverse.flatMap f) ys.reverse
  | [], _, pre, post => by simp [rep]
  | x :: xs, h, pre, post => by
    have h1 := rep_rev xs (fun y hy => h y (by simp [hy])) pre (f x ++ post)
    have h2 := h x (by simp) (pre ++ xs.reverse.flatMap f) post
    simp only [List.reverse_cons, List.flatMap_append, List.flatMap_cons, List.flatMap_nil, List.append_nil, List.length_append, List.length_cons, List.append_assoc] at h1 h2 ⊢
    rw [rep, h1]
    dsimp only
    rw [h2]
    simp [Nat.add_assoc]
theorem rep_reads {α : Type} {p : Part α} {f : α → List Int} (xs : List α) (h : ∀ x ∈ xs, Reads p (f x) x) : Reads (rep p xs.length) (xs.flatMap f) xs := by
  have := rep_rev (p := p) (f := f) xs.reverse (fun x hx => h x (List.mem_reverse.1 hx))
  rwa [List.reverse_reverse, List.length_reverse] at this

theorem byte_reads (x : Int) : Reads byteP [x] x := by
  intro pre post
  unfold byteP
  rw [if_neg (by simp)]
  have := at0_pre pre [x] post 0 (by simp)
  rw [Nat.add_zero] at this
  rw [this]
  rfl
theorem sg_reads {x : Int} (h : -128 ≤ x ∧ x ≤ 127) : Reads sgP [low x] x := by
  intro pre post
  unfold sgP
  rw [if_neg (by simp)]
  have := at0_pre pre [low x] post 0 (by simp)
  rw [Nat.add_zero] at this
  rw [this]
  show Except.ok (sg (low x), _) = _
  rw [sg_low h]
  rfl
theorem okB_arg {k o a n : Int} (h : okB k o a n = true) : -128 ≤ a ∧ a ≤ 127 := by
  unfold okB at h
  split at h <;> simp at h <;> omega
theorem op_reads {n : Int} {o : Op3} (h : o.ok n = true) : Reads (opP n) (opB o) o := by
  intro pre post
  have h0 := at0_pre pre (opB o) post 0 (by simp [opB])
  have h1 := at0_pre pre (opB o) post 1 (by simp [opB])
  have h2 := at0_pre pre (opB o) post 2 (by simp [opB])
  rw [Nat.add_zero] at h0
  have e : (⟨at0 (opB o) 0, at0 (opB o) 1, sg (at0 (opB o) 2)⟩ : Op3) = o := by
    show (⟨o.k, o.o, sg (low o.a)⟩ : Op3) = o
    rw [sg_low (okB_arg h)]
  unfold opP
  rw [if_neg (by simp [opB]), h0, h1, h2, e, if_pos h]
  rfl
theorem tx_reads {n : Int} {l : List Op3} (h : txOk n l = true) : Reads (txP n) (txB l) l := by
  unfold txOk at h
  simp only [Bool.and_eq_true, decide_eq_true_eq, List.all_eq_true] at h
  intro pre post
  have h0 := at0_pre pre (txB l) post 0 (by simp [txB])
  rw [Nat.add_zero] at h0
  have e : at0 (txB l) 0 = (l.length : Int) := rfl
  have hr := rep_reads l (fun x hx => op_reads (h.2 x hx)) (pre ++ [(l.length : Int)]) post
  unfold txP
  rw [if_neg (by simp [txB]), h0, e, if_neg (by omega), Int.toNat_natCast]
  simp only [List.append_assoc, List.cons_append, List.nil_append, List.length_append, List.length_cons, List.length_nil, Nat.zero_add, txB] at hr ⊢
  rw [hr]
  simp [Nat.add_assoc, Nat.add_comm]
theorem th_reads {n : Int} {l : List (List Op3)} (h : thOk n l = true) : Reads (thP n) (thB l) l := by
  unfold thOk at h
  simp only [Bool.and_eq_true, decide_eq_true_eq, List.all_eq_true] at h
  intro pre post
  have h0 := at0_pre pre (thB l) post 0 (by simp [thB])
  rw [Nat.add_zero] at h0
  have e : at0 (thB l) 0 = (l.length : Int) := rfl
  have hr := rep_reads l (fun x hx => tx_reads (h.2 x hx)) (pre ++ [(l.length : Int)]) post
  unfold thP
  rw [if_neg (by simp [thB]), h0, e, if_neg (by omega), Int.toNat_natCast]
  simp only [List.append_assoc, List.cons_append, List.nil_append, List.length_append, List.length_cons, List.length_nil, Nat.zero_add, thB] at hr ⊢
  rw [hr]
  simp [Nat.add_assoc, Nat.add_comm]
theorem dr_reads (l : List Int) : Reads drP ((l.length : Int) :: l.flatMap fun x => [x]) l := by
  intro pre post
  have h0 := at0_pre pre ((l.length : Int) :: l.flatMap fun x => [x]) post 0 (by simp)
  rw [Nat.add_zero] at h0
  have e : at0 ((l.length : Int) :: l.flatMap fun x => [x]) 0 = (l.length : Int) := rfl
  have hr := rep_reads l (fun x hx => byte_reads x) (pre ++ [(l.length : Int)]) post
  unfold drP
  rw [if_neg (by simp), h0, e, Int.toNat_natCast]
  simp only [List.append_assoc, List.cons_append, List.nil_append, List.length_append, List.length_cons, List.length_nil, Nat.zero_add] at hr ⊢
  rw [hr]
  simp
  omega

/-- What was put is got as it was. -/
theorem get_put {s : Scr} (h : s.ok = true) : getS (putS s) = .ok s := by
  unfold Scr.ok at h
  simp only [Bool.and_eq_true, decide_eq_true_eq, List.all_eq_true] at h
  obtain ⟨⟨⟨⟨⟨⟨⟨⟨h1, h2⟩, h3⟩, h4⟩, h5⟩, h6⟩, h7⟩, h8⟩, h9⟩ := h
  have hc := Cfg.ok_iff.1 h1
  have hcf : cfOf (putS s) = s.c := by
    obtain ⟨⟨a, b, c, d, e, f⟩, _, _, _, _⟩ := s
    show (⟨a, b, c / 256 * 256 + c % 256, d, e, f⟩ : Cfg) = _
    rw [show c / 256 * 256 + c % 256 = c by omega]
  have hf := rep_reads s.first (fun x hx => sg_reads (h4 x hx)) (cfB s.c) (s.all.flatMap thB ++ ((s.draws.length : Int) :: s.draws.flatMap fun x => [x]) ++ s.picks)
  have ha := rep_reads s.all (fun x hx => th_reads (h6 x hx)) (cfB s.c ++ s.first.flatMap fun x => [low x]) (((s.draws.length : Int) :: s.draws.flatMap fun x => [x]) ++ s.picks)
  have hd := dr_reads s.draws (cfB s.c ++ (s.first.flatMap fun x => [low x]) ++ s.all.flatMap thB) s.picks
  have e1 : cfB s.c ++ ((s.first.flatMap fun x => [low x]) ++ (s.all.flatMap thB ++ ((s.draws.length : Int) :: s.draws.flatMap fun x => [x]) ++ s.picks)) = putS s := by simp [putS, headB]
  have e2 : (cfB s.c ++ s.first.flatMap fun x => [low x]) ++ (s.all.flatMap thB ++ (((s.draws.length : Int) :: s.draws.flatMap fun x => [x]) ++ s.picks)) = putS s := by simp [putS, headB]
  have e3 : (cfB s.c ++ (s.first.flatMap fun x => [low x]) ++ s.all.flatMap thB) ++ (((s.draws.length : Int) :: s.draws.flatMap fun x => [x]) ++ s.picks) = putS s := by simp [putS, headB]
  rw [e1] at hf
  rw [e2] at ha
  rw [e3] at hd
  have l7 : (cfB s.c).length = 7 := rfl
  have hlen : 7 ≤ (putS s).length := by rw [← e1, List.length_append, l7]; omega
  unfold getS
  rw [if_neg (by omega), hcf, if_neg (by simp [h1]), if_neg (by omega)]
  rw [show s.c.ob.toNat = s.first.length by omega, show s.c.th.toNat = s.all.length by omega]
  rw [l7] at hf
  rw [hf]
  dsimp only
  rw [List.length_append, l7] at ha
  rw [ha]
  dsimp only
  rw [List.length_append, List.length_append, l7] at hd
  rw [hd]
  dsimp only
  congr 1
  obtain ⟨c, f, d, a, p⟩ := s
  congr 1
  rw [← e3]
  simp only [List.length_append, l7]
  rw [← List.append_assoc, List.drop_append_of_le_length (by simp [l7]; omega)]
  simp [l7, Nat.add_assoc]

def Bytes (L : List Int) : Prop := ∀ b ∈ L, 0 ≤ b ∧ b ≤ 255
theorem take_at0 {L : List Int} {i : Nat} (h : i < L.length) : L.take (i + 1) = L.take i ++ [at0 L i] := by
  rw [List.take_add_one]
  unfold at0
  rw [List.getD_eq_getElem?_getD, List.getElem?_eq_getElem h]
  rfl
theorem at0_byte {L : List Int} (h : Bytes L) {i : Nat} (hi : i < L.length) : 0 ≤ at0 L i ∧ at0 L i ≤ 255 := by
  unfold at0
  rw [List.getD_eq_getElem?_getD, List.getElem?_eq_getElem hi]
  exact h _ (List.getElem_mem hi)
/-- What a part got of bytes is right, and is put as those. -/
def Un {α : Type} (p : Part α) (f : α → List Int) (G : α → Prop) : Prop := ∀ (L : List Int) (i : Nat) (x : α) (j : Nat), Bytes L → i ≤ L.length → p L i = .ok (x, j) → G x ∧ j ≤ L.length ∧ i + (f x).length = j ∧ L.take j = L.take i ++ f x
theorem rep_len {α : Type} {p : Part α} {L : List Int} {i : Nat} : ∀ {m : Nat} {l : List α} {j : Nat}, rep p m L i = .ok (l, j) → l.length = m
  | 0, l, j, h => by
    rw [rep] at h
    cases h
    rfl
  | m + 1, l, j, h => by
    rw [rep] at h
    split at h
    · cases h
    · next l' j' h1 =>
      split at h
      · cases h
      · next x k h2 =>
        cases h
        rw [List.length_append, rep_len h1]
        rfl
theorem rep_un {α : Type} {p : Part α} {f : α → List Int} {G : α → Prop} (hp : Un p f G) : ∀ m : Nat, Un (rep p m) (fun l => l.flatMap f) (fun l => ∀ x ∈ l, G x)
  | 0, L, i, x, j, hb, hi, h => by
    rw [rep] at h
    cases h
    exact ⟨by simp, hi, rfl, by simp⟩
  | m + 1, L, i, x, j, hb, hi, h => by
    rw [rep] at h
    split at h
    · cases h
    · next l' j' h1 =>
      split at h
      · cases h
      · next y k h2 =>
        cases h
        obtain ⟨a1, a2, a3, a4⟩ := rep_un hp m L i l' j' hb hi h1
        obtain ⟨b1, b2, b3, b4⟩ := hp L j' y _ hb a2 h2
        refine ⟨fun z hz => ?_, b2, ?_, ?_⟩
        · rcases List.mem_append.1 hz with hz | hz
          · exact a1 z hz
          · have : z = y := by simpa using hz
            rw [this]
            exact b1
        · dsimp only at a3 ⊢
          simp only [List.flatMap_append, List.flatMap_cons, List.flatMap_nil, List.append_nil, List.length_append]
          omega
        · dsimp only at a4 ⊢
          rw [b4, a4]
          simp
theorem byte_un : Un byteP (fun x => [x]) (fun x => 0 ≤ x ∧ x ≤ 255) := by
  intro L i x j hb hi h
  unfold byteP at h
  split at h
  · cases h
  · next hl =>
    cases h
    exact ⟨at0_byte hb (by omega), by omega, rfl, take_at0 (by omega)⟩
theorem sg_range {b : Int} (h : 0 ≤ b ∧ b ≤ 255) : -128 ≤ sg b ∧ sg b ≤ 127 := by
  unfold sg
  split <;> omega
theorem sg_un : Un sgP (fun x => [low x]) (fun x => -128 ≤ x ∧ x ≤ 127) := by
  intro L i x j hb hi h
  unfold sgP at h
  split at h
  · cases h
  · next hl =>
    cases h
    have h0 := at0_byte hb (show i < L.length by omega)
    refine ⟨sg_range h0, by omega, rfl, ?_⟩
    dsimp only
    rw [low_sg h0]
    exact take_at0 (by omega)
theorem op_un (n : Int) : Un (opP n) opB (fun o => o.ok n = true) := by
  intro L i x j hb hi h
  unfold opP at h
  split at h
  · cases h
  · next hl =>
    split at h
    · next hok =>
      cases h
      refine ⟨hok, by omega, rfl, ?_⟩
      rw [show i + 3 = i + 1 + 1 + 1 by omega, take_at0 (by omega), take_at0 (by omega), take_at0 (by omega)]
      unfold opB
      dsimp only
      rw [low_sg (at0_byte hb (by omega))]
      simp [Nat.add_assoc]
    · cases h
theorem tx_un (n : Int) : Un (txP n) txB (fun l => txOk n l = true) := by
  intro L i x j hb hi h
  unfold txP at h
  split at h
  · cases h
  · next hl =>
    split at h
    · cases h
    · next hr =>
      obtain ⟨a1, a2, a3, a4⟩ := rep_un (op_un n) _ L (i + 1) x j hb (by omega) h
      have hm := rep_len h
      have he : at0 L i = (x.length : Int) := by omega
      refine ⟨?_, a2, ?_, ?_⟩
      · unfold txOk
        simp only [Bool.and_eq_true, decide_eq_true_eq, List.all_eq_true]
        exact ⟨⟨by omega, by omega⟩, a1⟩
      · dsimp only at a3
        unfold txB
        rw [List.length_cons]
        omega
      · dsimp only at a4
        rw [a4, take_at0 (by omega), he]
        simp [txB]
theorem th_un (n : Int) : Un (thP n) thB (fun l => thOk n l = true) := by
  intro L i x j hb hi h
  unfold thP at h
  split at h
  · cases h
  · next hl =>
    split at h
    · cases h
    · next hr =>
      obtain ⟨a1, a2, a3, a4⟩ := rep_un (tx_un n) _ L (i + 1) x j hb (by omega) h
      have hm := rep_len h
      have h0 := at0_byte hb (show i < L.length by omega)
      have he : at0 L i = (x.length : Int) := by omega
      refine ⟨?_, a2, ?_, ?_⟩
      · unfold thOk
        simp only [Bool.and_eq_true, decide_eq_true_eq, List.all_eq_true]
        exact ⟨by omega, a1⟩
      · dsimp only at a3
        unfold thB
        rw [List.length_cons]
        omega
      · dsimp only at a4
        rw [a4, take_at0 (by omega), he]
        simp [thB]
theorem dr_un : Un drP (fun l => (l.length : Int) :: l.flatMap fun x => [x]) (fun l => l.length ≤ 255 ∧ ∀ x ∈ l, 0 ≤ x ∧ x ≤ 255) := by
  intro L i x j hb hi h
  unfold drP at h
  split at h
  · cases h
  · next hl =>
    obtain ⟨a1, a2, a3, a4⟩ := rep_un byte_un _ L (i + 1) x j hb (by omega) h
    have hm := rep_len h
    have h0 := at0_byte hb (show i < L.length by omega)
    have he : at0 L i = (x.length : Int) := by omega
    refine ⟨⟨by omega, a1⟩, a2, ?_, ?_⟩
    · dsimp only at a3 ⊢
      rw [List.length_cons]
      omega
    · dsimp only at a4 ⊢
      rw [a4, take_at0 (by omega), he]
      simp

/-- What was got is right, and is put as those bytes. -/
theorem put_get {L : List Int} {s : Scr} (hb : Bytes L) (h : getS L = .ok s) : s.ok = true ∧ putS s = L := by
  unfold getS at h
  split at h
  · cases h
  next h7 =>
  split at h
  · cases h
  next hc =>
  split at h
  · cases h
  next hf =>
  split at h
  · cases h
  next f i hi =>
  split at h
  · cases h
  next a j hj =>
  split at h
  · cases h
  next d k hk =>
  cases h
  have hc' : (cfOf L).ok = true := by simpa using hc
  have hcc := Cfg.ok_iff.1 hc'
  obtain ⟨a1, a2, a3, a4⟩ := rep_un sg_un _ L 7 f i hb (by omega) hi
  obtain ⟨b1, b2, b3, b4⟩ := rep_un (th_un _) _ L i a j hb a2 hj
  obtain ⟨c1, c2, c3, c4⟩ := dr_un L j d k hb b2 hk
  have l1 := rep_len hi
  have l2 := rep_len hj
  have hcf : cfB (cfOf L) = L.take 7 := by
    have g2 := at0_byte hb (show 2 < L.length by omega)
    have g3 := at0_byte hb (show 3 < L.length by omega)
    rw [show (7 : Nat) = 0 + 1 + 1 + 1 + 1 + 1 + 1 + 1 by rfl]
    repeat rw [take_at0 (by omega)]
    unfold cfB cfOf
    dsimp only
    rw [show (at0 L 2 * 256 + at0 L 3) / 256 = at0 L 2 by omega, show (at0 L 2 * 256 + at0 L 3) % 256 = at0 L 3 by omega]
    simp
  refine ⟨?_, ?_⟩
  · unfold Scr.ok
    simp only [Bool.and_eq_true, decide_eq_true_eq, List.all_eq_true]
    exact ⟨⟨⟨⟨⟨⟨⟨⟨hc', by omega⟩, by omega⟩, a1⟩, by omega⟩, b1⟩, c1.1⟩, c1.2⟩, fun x hx => hb x (List.mem_of_mem_drop hx)⟩
  · unfold putS headB
    dsimp only at a4 b4 c4 ⊢
    rw [hcf]
    have : L = L.take k ++ L.drop k := (List.take_append_drop k L).symm
    conv => rhs; rw [this]
    rw [c4, b4, a4]
    simp

/-- What is cut ahead of a part's end is short; what is cut behind it tells the same. -/
def Cut {α : Type} (p : Part α) : Prop := ∀ (L : List Int) (i : Nat) (x : α) (j n : Nat), p L i = .ok (x, j) → i ≤ n → n ≤ L.length → (n < j → p (L.take n) i = .error (n, 9)) ∧ (j ≤ n → p (L.take n) i = .ok (x, j))
theorem at0_take {L : List Int} {i n : Nat} (h : i < n) : at0 (L.take n) i = at0 L i := by
  unfold at0
  rw [List.getD_eq_getElem?_getD, List.getD_eq_getElem?_getD, List.getElem?_take_of_lt h]
theorem take_len {L : List Int} {n : Nat} (h : n ≤ L.length) : (L.take n).length = n := by rw [List.length_take]; omega
def Up {α : Type} (p : Part α) : Prop := ∀ L i x j, p L i = .ok (x, j) → i ≤ j
theorem rep_le {α : Type} {p : Part α} (hp : Up p) {L : List Int} {i : Nat} : ∀ {m : Nat} {l : List α} {j : Nat}, rep p m L i = .ok (l, j) → i ≤ j
  | 0, l, j, h => by
    rw [rep] at h
    cases h
    exact Nat.le_refl _
  | m + 1, l, j, h => by
    rw [rep] at h
    split at h
    · cases h
    · next l' j' h1 =>
      split at h
      · cases h
      · next x k h2 =>
        cases h
        exact Nat.le_trans (rep_le hp h1) (hp _ _ _ _ h2)
theorem rep_cut {α : Type} {p : Part α} (hu : Up p) (hp : Cut p) : ∀ m : Nat, Cut (rep p m)
  | 0, L, i, x, j, n, h, hi, hn => by
    rw [rep] at h
    cases h
    exact ⟨fun h => by omega, fun _ => rfl⟩
  | m + 1, L, i, x, j, n, h, hi, hn => by
    rw [rep] at h
    split at h
    · cases h
    · next l' j' h1 =>
      split at h
      · cases h
      · next y k h2 =>
        cases h
        obtain ⟨a1, a2⟩ := rep_cut hu hp m L i l' j' n h1 hi hn
        by_cases hj : n < j'
        · refine ⟨fun _ => ?_, fun hk => ?_⟩
          · rw [rep, a1 hj]
          · exfalso
            have := hu _ _ _ _ h2
            omega
        · obtain ⟨b1, b2⟩ := hp L j' y _ n h2 (by omega) hn
          refine ⟨fun hk => ?_, fun hk => ?_⟩
          · rw [rep, a2 (by omega)]
            dsimp only
            rw [b1 hk]
          · rw [rep, a2 (by omega)]
            dsimp only
            rw [b2 hk]
theorem byte_up : Up byteP := fun L i x j h => by
  unfold byteP at h
  split at h
  · cases h
  · cases h; omega
theorem sg_up : Up sgP := fun L i x j h => by
  unfold sgP at h
  split at h
  · cases h
  · cases h; omega
theorem op_up (n : Int) : Up (opP n) := fun L i x j h => by
  unfold opP at h
  split at h
  · cases h
  · split at h
    · cases h; omega
    · cases h
theorem tx_up (n : Int) : Up (txP n) := fun L i x j h => by
  unfold txP at h
  split at h
  · cases h
  · split at h
    · cases h
    · have := rep_le (op_up n) h
      omega
theorem th_up (n : Int) : Up (thP n) := fun L i x j h => by
  unfold thP at h
  split at h
  · cases h
  · split at h
    · cases h
    · have := rep_le (tx_up n) h
      omega
theorem dr_up : Up drP := fun L i x j h => by
  unfold drP at h
  split at h
  · cases h
  · have := rep_le byte_up h
    omega
theorem byte_cut : Cut byteP := by
  intro L i x j n h hi hn
  unfold byteP at h ⊢
  rw [take_len hn]
  split at h
  · cases h
  · cases h
    refine ⟨fun hk => by rw [if_pos (by omega)], fun hk => by rw [if_neg (by omega), at0_take (by omega)]⟩
theorem sg_cut : Cut sgP := by
  intro L i x j n h hi hn
  unfold sgP at h ⊢
  rw [take_len hn]
  split at h
  · cases h
  · cases h
    refine ⟨fun hk => by rw [if_pos (by omega)], fun hk => by rw [if_neg (by omega), at0_take (by omega)]⟩
theorem op_cut (m : Int) : Cut (opP m) := by
  intro L i x j n h hi hn
  unfold opP at h ⊢
  rw [take_len hn]
  split at h
  · cases h
  · split at h
    · next hok =>
      cases h
      refine ⟨fun hk => by rw [if_pos (by omega)], fun hk => ?_⟩
      rw [if_neg (by omega), at0_take (by omega), at0_take (by omega), at0_take (by omega), if_pos hok]
    · cases h
theorem tx_cut (m : Int) : Cut (txP m) := by
  intro L i x j n h hi hn
  unfold txP at h ⊢
  rw [take_len hn]
  split at h
  · cases h
  · split at h
    · cases h
    · next hr =>
      have hu := rep_le (op_up m) h
      by_cases hni : n ≤ i
      · exact ⟨fun hk => by rw [if_pos hni], fun hk => by omega⟩
      · rw [if_neg hni, at0_take (by omega), if_neg hr]
        exact rep_cut (op_up m) (op_cut m) _ L (i + 1) x j n h (by omega) hn
theorem th_cut (m : Int) : Cut (thP m) := by
  intro L i x j n h hi hn
  unfold thP at h ⊢
  rw [take_len hn]
  split at h
  · cases h
  · split at h
    · cases h
    · next hr =>
      have hu := rep_le (tx_up m) h
      by_cases hni : n ≤ i
      · exact ⟨fun hk => by rw [if_pos hni], fun hk => by omega⟩
      · rw [if_neg hni, at0_take (by omega), if_neg hr]
        exact rep_cut (tx_up m) (tx_cut m) _ L (i + 1) x j n h (by omega) hn
theorem dr_cut : Cut drP := by
  intro L i x j n h hi hn
  unfold drP at h ⊢
  rw [take_len hn]
  split at h
  · cases h
  · have hu := rep_le byte_up h
    by_cases hni : n ≤ i
    · exact ⟨fun hk => by rw [if_pos hni], fun hk => by omega⟩
    · rw [if_neg hni, at0_take (by omega)]
      exact rep_cut byte_up byte_cut _ L (i + 1) x j n h (by omega) hn

/-- Bytes of a script that are cut ahead of its picks are short. -/
theorem get_cut {s : Scr} (h : s.ok = true) {n : Nat} (hn : n < (headB s).length) : getS ((putS s).take n) = .error (n, 9) := by
  have hg := get_put h
  have hl : n ≤ (putS s).length := by unfold putS; rw [List.length_append]; omega
  generalize hL : putS s = L at *
  unfold getS at hg ⊢
  rw [take_len hl]
  split at hg
  · cases hg
  next h7 =>
  split at hg
  · cases hg
  next hc =>
  split at hg
  · cases hg
  next hf =>
  split at hg
  · cases hg
  next f i hi =>
  split at hg
  · cases hg
  next a j hj =>
  split at hg
  · cases hg
  next d k hk =>
  by_cases hn7 : n < 7
  · rw [if_pos hn7]
  have ec : cfOf (L.take n) = cfOf L := by
    unfold cfOf
    rw [at0_take (by omega), at0_take (by omega), at0_take (by omega), at0_take (by omega), at0_take (by omega), at0_take (by omega), at0_take (by omega)]
  rw [if_neg hn7, ec, if_neg hc, if_neg hf]
  have hnk : n < k := by
    have e1 : s.picks = L.drop k := by cases hg; rfl
    have e2 : (headB s).length + s.picks.length = L.length := by rw [← hL]; unfold putS; rw [List.length_append]
    rw [e1, List.length_drop] at e2
    omega
  obtain ⟨a1, a2⟩ := rep_cut sg_up sg_cut _ L 7 f i n hi (by omega) hl
  by_cases h1 : n < i
  · rw [a1 h1]
  rw [a2 (by omega)]
  dsimp only
  obtain ⟨b1, b2⟩ := rep_cut (th_up _) (th_cut _) _ L i a j n hj (by omega) hl
  by_cases h2 : n < j
  · rw [b1 h2]
  rw [b2 (by omega)]
  dsimp only
  rw [(dr_cut L j d k n hk (by omega) hl).1 hnk]
theorem put_picks (s : Scr) (l : List Int) : putS { s with picks := l } = headB s ++ l := rfl
theorem ok_picks {s : Scr} (h : s.ok = true) {l : List Int} (hl : Bytes l) : ({ s with picks := l } : Scr).ok = true := by
  unfold Scr.ok at h ⊢
  simp only [Bool.and_eq_true, decide_eq_true_eq, List.all_eq_true] at h ⊢
  exact ⟨h.1, hl⟩
theorem get_range {L : List Int} (h : 7 ≤ L.length) (hc : (cfOf L).ok = false) : getS L = .error (0, 2) := by
  unfold getS
  rw [if_neg (by omega), if_pos hc]
theorem get_full {L : List Int} (h : 7 ≤ L.length) (hc : (cfOf L).ok = true) (hf : (cfOf L).re < 2 * (cfOf L).ob) : getS L = .error (2, 4) := by
  unfold getS
  rw [if_neg (by omega), if_neg (by simp [hc]), if_pos hf]


section
variable {L : List Int}
theorem get_first_err (h : 7 ≤ L.length) (hc : (cfOf L).ok = true) (hf : ¬ (cfOf L).re < 2 * (cfOf L).ob) {e : Nat × Int} (h1 : rep sgP (cfOf L).ob.toNat L 7 = .error e) : getS L = .error e := by
  unfold getS
  rw [if_neg (by omega), if_neg (by simp [hc]), if_neg hf, h1]
theorem get_all_err (h : 7 ≤ L.length) (hc : (cfOf L).ok = true) (hf : ¬ (cfOf L).re < 2 * (cfOf L).ob) {f : List Int} {i : Nat} {e : Nat × Int} (h1 : rep sgP (cfOf L).ob.toNat L 7 = .ok (f, i)) (h2 : rep (thP (cfOf L).ob) (cfOf L).th.toNat L i = .error e) : getS L = .error e := by
  unfold getS
  rw [if_neg (by omega), if_neg (by simp [hc]), if_neg hf, h1]
  dsimp only
  rw [h2]
theorem get_dr_err (h : 7 ≤ L.length) (hc : (cfOf L).ok = true) (hf : ¬ (cfOf L).re < 2 * (cfOf L).ob) {f : List Int} {i j : Nat} {A : List (List (List Op3))} {e : Nat × Int} (h1 : rep sgP (cfOf L).ob.toNat L 7 = .ok (f, i)) (h2 : rep (thP (cfOf L).ob) (cfOf L).th.toNat L i = .ok (A, j)) (h3 : drP L j = .error e) : getS L = .error e := by
  unfold getS
  rw [if_neg (by omega), if_neg (by simp [hc]), if_neg hf, h1]
  dsimp only
  rw [h2]
  dsimp only
  rw [h3]
theorem get_all_ok (h : 7 ≤ L.length) (hc : (cfOf L).ok = true) (hf : ¬ (cfOf L).re < 2 * (cfOf L).ob) {f d : List Int} {i j k : Nat} {A : List (List (List Op3))} (h1 : rep sgP (cfOf L).ob.toNat L 7 = .ok (f, i)) (h2 : rep (thP (cfOf L).ob) (cfOf L).th.toNat L i = .ok (A, j)) (h3 : drP L j = .ok (d, k)) : getS L = .ok ⟨cfOf L, f, d, A, L.drop k⟩ := by
  unfold getS
  rw [if_neg (by omega), if_neg (by simp [hc]), if_neg hf, h1]
  dsimp only
  rw [h2]
  dsimp only
  rw [h3]
end
end Go.Proofs.Ytinmhefkmjlelaa.sc

/- What a walk is told of an argument that is a script. -/
namespace Go.Proofs.Ytinmhefkmjlelaa.sc
open Go Go.RowKit Go.ChangeShapes Go.WideShapes Go.Deep Go.Proofs.Ytinmhefkmjlelaa.base Go.Proofs.Ytinmhefkmjlelaa.lg Go.Proofs.Ytinmhefkmjlelaa.md
set_option linter.unusedVariables false
set_option maxRecDepth 100000

/-- A config's cells. -/
def cfC (c : Cfg) : List Value := [.int .i64 c.ob, .int .i64 c.th, .int .i64 c.re, .int .i64 c.ti, .int .i64 c.ma, .int .i64 c.wa]

def Cfg.Wf (c : Cfg) : Prop := (Lit.int .i64 c.ob).wf = true ∧ (Lit.int .i64 c.th).wf = true ∧ (Lit.int .i64 c.re).wf = true ∧ (Lit.int .i64 c.ti).wf = true ∧ (Lit.int .i64 c.ma).wf = true ∧ (Lit.int .i64 c.wa).wf = true

section
variable {H : Type} {enc : TypeId × Value → H} {w : World} {base : Nat} {held : Bool} {fuel : Nat} {x : DataW H × List MemPlace}
theorem row1_of {t e : TypeId} {k : IntKind} (ht : Try.prog.underlying t = some (.slice e)) (he : Try.prog.underlying e = some (.int k)) (hc : Try.prog.cellsOf e = 1) {cs : List Value} (h : DataW.trod enc Try.prog w base (fun _ => true) held fuel t cs = some x) : ∃ (a : Option Addr) (n c : Nat) (z : Nat → Int), cs = [.slice a n c] ∧ IsRow k w a n c z := by
  have key : ∃ (a : Option Addr) (n c : Nat), cs = [.slice a n c] := by
    rcases open_ints ht he hc h with ⟨hcs, _⟩ | ⟨c, l, m, zs, hcs, _⟩
    · exact ⟨none, 0, 0, hcs⟩
    · exact ⟨some c, l, m, hcs⟩
  obtain ⟨a, n, c, rfl⟩ := key
  obtain ⟨z, hz⟩ := isRow_of ht he hc (a := a) (len := n) (cap := c) h
  exact ⟨a, n, c, z, rfl, hz⟩
theorem cfg_of {cs : List Value} (hl0 : cs.length = 6) (h : DataW.trod enc Try.prog w base (fun _ => true) held fuel 25 cs = some x) : ∃ c : Cfg, cs = cfC c ∧ c.Wf := by
  obtain ⟨xs, n', _, _, _, hl1, hf⟩ := DataW.trod_struct Try.underlying25 h
  have hl : xs.length = 6 := hl1
  have k0 : Try.prog.cellsOf 3 = 1 := by kernel_rfl
  have key : ∀ (j : Nat) (v : Value), (cs.drop j).take 1 = [v] → cs[j]? = some v := fun j v hv => by
    have h0 : ((cs.drop j).take 1)[0]? = some v := by rw [hv]; rfl
    simpa using h0
  have fi : ∀ j, j < 6 → ∃ v : Int, cs[j]? = some (.int .i64 v) ∧ (Lit.int .i64 v).wf = true := fun j hj => by
    have e3 : DataW.trod enc Try.prog w base (fun _ => true) held n' 3 ((cs.drop j).take 1) = xs[j]? := by
      rw [← k0]
      rcases (by omega : j = 0 ∨ j = 1 ∨ j = 2 ∨ j = 3 ∨ j = 4 ∨ j = 5) with rfl | rfl | rfl | rfl | rfl | rfl
      · exact hf 0 _ rfl
      · exact hf 1 _ rfl
      · exact hf 2 _ rfl
      · exact hf 3 _ rfl
      · exact hf 4 _ rfl
      · exact hf 5 _ rfl
    rw [List.getElem?_eq_getElem (by omega)] at e3
    obtain ⟨v, hv, _, hw⟩ := DataW.trod_int Try.underlying3 e3
    exact ⟨v, key j _ hv, hw⟩
  obtain ⟨v0, g0, w0⟩ := fi 0 (by omega)
  obtain ⟨v1, g1, w1⟩ := fi 1 (by omega)
  obtain ⟨v2, g2, w2⟩ := fi 2 (by omega)
  obtain ⟨v3, g3, w3⟩ := fi 3 (by omega)
  obtain ⟨v4, g4, w4⟩ := fi 4 (by omega)
  obtain ⟨v5, g5, w5⟩ := fi 5 (by omega)
  refine ⟨⟨v0, v1, v2, v3, v4, v5⟩, ?_, w0, w1, w2, w3, w4, w5⟩
  apply List.ext_getElem?
  intro i
  by_cases hi : i < 6
  · rcases (by omega : i = 0 ∨ i = 1 ∨ i = 2 ∨ i = 3 ∨ i = 4 ∨ i = 5) with rfl | rfl | rfl | rfl | rfl | rfl
    · exact g0
    · exact g1
    · exact g2
    · exact g3
    · exact g4
    · exact g5
  · rw [List.getElem?_eq_none (by omega), List.getElem?_eq_none (by simp [cfC]; omega)]
/-- A script by value: its cells, and where its lists lie. -/
theorem script_of {cs : Array Value} (hsz : cs.size = 10) (h0 : DataW.trod enc Try.prog w base (fun _ => true) held fuel 34 (Value.agg cs).cells.toList = some x) : ∃ (c : Cfg) (fa : Option Addr) (fn fc : Nat) (fz : Nat → Int) (da : Option Addr) (dn dc : Nat) (dz : Nat → Int) (aa : Option Addr) (ac : Nat) (A : List (List Txn)) (pa : Option Addr) (pn pc : Nat) (pz : Nat → Int),
    cs = ⟨cfC c ++ [.slice fa fn fc, .slice da dn dc, .slice aa A.length ac, .slice pa pn pc]⟩ ∧ c.Wf ∧ IsRow .i64 w fa fn fc fz ∧ IsRow .u8 w da dn dc dz ∧ IsAll w aa A ∧ IsRow .i64 w pa pn pc pz := by
  have h : DataW.trod enc Try.prog w base (fun _ => true) held fuel 34 cs.toList = some x := h0
  obtain ⟨xs, n', _, _, _, hl1, hf⟩ := DataW.trod_struct Try.underlying34 h
  have hl : xs.length = 5 := hl1
  have hcl : cs.toList.length = 10 := by rw [Array.length_toList]; exact hsz
  have kc : Try.prog.cellsOf 25 = 6 := by kernel_rfl
  have k1 : Try.prog.cellsOf 26 = 1 := by kernel_rfl
  have k2 : Try.prog.cellsOf 22 = 1 := by kernel_rfl
  have k3 : Try.prog.cellsOf 27 = 1 := by kernel_rfl
  have k4 : Try.prog.cellsOf 28 = 1 := by kernel_rfl
  have key : ∀ (j : Nat) (v : Value), (cs.toList.drop j).take 1 = [v] → cs.toList[j]? = some v := fun j v hv => by
    have h0 : ((cs.toList.drop j).take 1)[0]? = some v := by rw [hv]; rfl
    simpa using h0
  have f0 : DataW.trod enc Try.prog w base (fun _ => true) held n' 25 ((cs.toList.drop 0).take (Try.prog.cellsOf 25)) = xs[0]? := hf 0 _ rfl
  have f1 : DataW.trod enc Try.prog w base (fun _ => true) held n' 26 ((cs.toList.drop 6).take (Try.prog.cellsOf 26)) = xs[1]? := hf 1 _ rfl
  have f2 : DataW.trod enc Try.prog w base (fun _ => true) held n' 22 ((cs.toList.drop 7).take (Try.prog.cellsOf 22)) = xs[2]? := hf 2 _ rfl
  have f3 : DataW.trod enc Try.prog w base (fun _ => true) held n' 27 ((cs.toList.drop 8).take (Try.prog.cellsOf 27)) = xs[3]? := hf 3 _ rfl
  have f4 : DataW.trod enc Try.prog w base (fun _ => true) held n' 28 ((cs.toList.drop 9).take (Try.prog.cellsOf 28)) = xs[4]? := hf 4 _ rfl
  rw [kc, List.getElem?_eq_getElem (by omega), List.drop_zero] at f0
  rw [k1, List.getElem?_eq_getElem (by omega)] at f1
  rw [k2, List.getElem?_eq_getElem (by omega)] at f2
  rw [k3, List.getElem?_eq_getElem (by omega)] at f3
  rw [k4, List.getElem?_eq_getElem (by omega)] at f4
  obtain ⟨c, e0, hw⟩ := cfg_of (by rw [List.length_take, hcl]; rfl) f0
  obtain ⟨fa, fn, fc, fz, e1, hf1⟩ := row1_of Try.underlying26 Try.underlying2 (by kernel_rfl) f1
  obtain ⟨da, dn, dc, dz, e2, hf2⟩ := row1_of Try.underlying22 Try.underlying5 (by kernel_rfl) f2
  obtain ⟨pa, pn, pc, pz, e4, hf4⟩ := row1_of Try.underlying28 Try.underlying3 (by kernel_rfl) f4
  obtain ⟨aa, ac, A, e3, _, _, hf3⟩ := slice1_of (p := pTx w) Try.underlying27 (by kernel_rfl) (fun f cs x h => txs_of h) f3
  refine ⟨c, fa, fn, fc, fz, da, dn, dc, dz, aa, ac, A, pa, pn, pc, pz, ?_, hw, hf1, hf2, hf3, hf4⟩
  apply Array.ext'
  show cs.toList = cfC c ++ [.slice fa fn fc, .slice da dn dc, .slice aa A.length ac, .slice pa pn pc]
  rw [← e0]
  have g1 := key 6 _ e1
  have g2 := key 7 _ e2
  have g3 := key 8 _ e3
  have g4 := key 9 _ e4
  apply List.ext_getElem?
  intro i
  by_cases hi : i < 6
  · rw [List.getElem?_append_left (by rw [List.length_take, hcl]; omega), List.getElem?_take_of_lt hi]
  · rw [List.getElem?_append_right (by rw [List.length_take, hcl]; omega), show (cs.toList.take 6).length = 6 by rw [List.length_take, hcl]; rfl]
    by_cases h10 : i < 10
    · rcases (by omega : i = 6 ∨ i = 7 ∨ i = 8 ∨ i = 9) with rfl | rfl | rfl | rfl
      · exact g1
      · exact g2
      · exact g3
      · exact g4
    · rw [List.getElem?_eq_none (by omega), List.getElem?_eq_none (by simp; omega)]
end
end Go.Proofs.Ytinmhefkmjlelaa.sc

/- One's own blocks: a list of blocks (their numbers, types and cells; a new one comes to the front) that were made since a world w0, and all that was there in w0 stands. Plain facts on memory, of no program. -/
namespace Go.Proofs.Ytinmhefkmjlelaa.base
open Go Go.RowKit

/-- w came of w0 by new blocks alone, and those of L are among them, with these cells. -/
structure Own (w0 w : World) (L : List (Nat × TypeId × List Value)) : Prop where
  grow : w0.grownBy w none
  blk : ∀ e ∈ L, w0.heap.size ≤ e.1 ∧ Blk e.2.1 w e.1 ⟨e.2.2⟩
  down : L.Pairwise (fun a b => a.1 ≠ b.1)

theorem Blk.at {w : World} {b : Nat} {t : TypeId} {cs : List Value} (h : Blk t w b ⟨cs⟩) (j : Nat) {v : Value} (hv : cs[j]? = some v) : w.cell? ⟨b, j, none⟩ = some v := by
  rw [h.cell j]
  simpa using hv
theorem size_alloc (w : World) (o : Obj) : (w.alloc o).heap.size = w.heap.size + 1 := by simp
theorem size_setCell (w : World) (p : Addr) (u : Value) : (w.setCell p u).heap.size = w.heap.size := by simp [World.setCell]

/-- Nor is the block behind the next one there yet. -/
theorem new_ne1 (w : World) (a : Addr) {u : Value} (h : w.cell? a = some u) : w.heap.size + 1 ≠ a.block := Nat.ne_of_gt (Nat.lt_succ_of_lt (World.block_lt_of_cell? w a h))

section
variable {w0 w w' : World} {L : List (Nat × TypeId × List Value)}
theorem Own.start (w : World) : Own w w [] := ⟨gb_refl w _, by simp, by simp⟩
theorem Own.drew (h : Own w0 w L) : Own w0 w.drew L := ⟨gb_drew h.grow, h.blk, h.down⟩
theorem Own.drewN (h : Own w0 w L) (n : Nat) : Own w0 (w.drewN n) L := ⟨gb_drewN h.grow n, h.blk, h.down⟩
theorem Own.size (h : Own w0 w L) : w0.heap.size ≤ w.heap.size := h.grow.size
theorem Own.grown (h : Own w0 w L) (g : w.grownBy w' none) : Own w0 w' L :=
  ⟨gb_trans h.grow g, fun e he => ⟨(h.blk e he).1, (h.blk e he).2.grown g (by simp)⟩, h.down⟩
theorem Own.skip (h : Own w0 w L) (o : Obj) : Own w0 (w.alloc o) L := h.grown (World.grownBy_alloc w o none)
theorem Own.alloc (h : Own w0 w L) (t : TypeId) (cs : List Value) : Own w0 (w.alloc (.cells ⟨cs⟩ t)) ((w.heap.size, t, cs) :: L) := by
  refine ⟨gb_alloc h.grow _, ?_, ?_⟩
  · intro e he
    rcases List.mem_cons.1 he with rfl | he
    · exact ⟨h.grow.size, Blk.made w t _⟩
    · exact ⟨(h.blk e he).1, (h.blk e he).2.alloc _⟩
  · exact List.pairwise_cons.2 ⟨fun e he => Nat.ne_of_gt (h.blk e he).2.lt, h.down⟩
theorem Own.get (h : Own w0 w L) (k : Nat) {b : Nat} {t : TypeId} {cs : List Value} (hk : L[k]? = some (b, t, cs)) : Blk t w b ⟨cs⟩ := (h.blk _ (List.mem_of_getElem? hk)).2
theorem Own.base (h : Own w0 w L) (k : Nat) {b : Nat} {t : TypeId} {cs : List Value} (hk : L[k]? = some (b, t, cs)) : w0.heap.size ≤ b := (h.blk _ (List.mem_of_getElem? hk)).1
theorem Own.lt (h : Own w0 w L) (k : Nat) {b : Nat} {t : TypeId} {cs : List Value} (hk : L[k]? = some (b, t, cs)) : b < w.heap.size := (h.get k hk).lt
theorem Own.cell (h : Own w0 w L) (k j : Nat) {b : Nat} {t : TypeId} {cs : List Value} {v : Value} (hk : L[k]? = some (b, t, cs)) (hv : cs[j]? = some v) : w.cell? ⟨b, j, none⟩ = some v := by
  rw [(h.get k hk).cell j]
  simpa using hv
theorem Own.free (h : Own w0 w L) (k j : Nat) {b : Nat} {t : TypeId} {cs : List Value} (hk : L[k]? = some (b, t, cs)) : w.frozen? ⟨b, j, none⟩ = false := (h.get k hk).free j
theorem Own.ne (h : Own w0 w L) (i k : Nat) {b c : Nat} {t u : TypeId} {cs ds : List Value} (hi : L[i]? = some (b, t, cs)) (hk : L[k]? = some (c, u, ds)) (hik : i ≠ k) : b ≠ c := by
  have := List.pairwise_iff_getElem.1 h.down
  obtain ⟨hi1, hi2⟩ := List.getElem?_eq_some_iff.1 hi
  obtain ⟨hk1, hk2⟩ := List.getElem?_eq_some_iff.1 hk
  rcases Nat.lt_or_gt_of_ne hik with l | l
  · have h3 := this i k hi1 hk1 l
    rw [hi2, hk2] at h3
    exact h3
  · have h3 := this k i hk1 hi1 l
    rw [hi2, hk2] at h3
    exact fun e => h3 e.symm
theorem Own.ne' (h : Own w0 w L) (i k : Nat) {b c : Nat} {t u : TypeId} {cs ds : List Value} (hi : L[i]? = some (b, t, cs)) (hk : L[k]? = some (c, u, ds)) (hik : i ≠ k) : b ≠ c ∧ c ≠ b :=
  ⟨h.ne i k hi hk hik, h.ne k i hk hi (Ne.symm hik)⟩
/-- Entry k alone was written. -/
theorem Own.change (h : Own w0 w L) (k : Nat) {b : Nat} {t : TypeId} {cs ds : List Value} (hk : L[k]? = some (b, t, cs)) (g : w.grownBy w' (some b)) (hb : Blk t w' b ⟨ds⟩) : Own w0 w' (L.set k (b, t, ds)) := by
  obtain ⟨hk1, hk2⟩ := List.getElem?_eq_some_iff.1 hk
  refine ⟨gb_over h.grow g (h.base k hk), ?_, ?_⟩
  · intro e he
    obtain ⟨i, hi⟩ := List.getElem?_of_mem he
    by_cases hik : k = i
    · subst hik
      rw [List.getElem?_set_self hk1] at hi
      cases hi
      exact ⟨h.base k hk, hb⟩
    · rw [List.getElem?_set_ne hik] at hi
      obtain ⟨c, u, es⟩ := e
      refine ⟨h.base i hi, (h.get i hi).grown g ?_⟩
      intro e1
      cases e1
      exact h.ne k i hk hi hik rfl
  · have hd := List.pairwise_iff_getElem.1 h.down
    refine List.pairwise_iff_getElem.2 fun i j hi hj hij => ?_
    have hi' : i < L.length := by simpa using hi
    have hj' : j < L.length := by simpa using hj
    have h0 := hd i j hi' hj' hij
    have key : ∀ m (hm : m < L.length) (hm2 : m < (L.set k (b, t, ds)).length), ((L.set k (b, t, ds))[m]).1 = (L[m]).1 := by
      intro m hm hm2
      by_cases hkm : k = m
      · subst hkm
        rw [List.getElem_set_self, hk2]
      · rw [List.getElem_set_ne hkm]
    rw [key i hi' hi, key j hj' hj]
    exact h0
theorem Own.set (h : Own w0 w L) (k j : Nat) (u : Value) {b : Nat} {t : TypeId} {cs : List Value} (hk : L[k]? = some (b, t, cs)) : Own w0 (w.setCell ⟨b, j, none⟩ u) (L.set k (b, t, cs.set j u)) :=
  h.change k hk (gb_setB (gb_refl _ _) u) (by simpa using (h.get k hk).set j u)
theorem Own.below (h : Own w0 w L) : Below w0.heap.size w0 w := gb_below h.grow
/-- What was there stays. -/
theorem Own.old (h : Own w0 w L) {p : Addr} {v : Value} (hc : w0.cell? p = some v) : w.cell? p = some v := h.grow.cell hc (by simp)
theorem Own.apart (h : Own w0 w L) (k : Nat) {b c : Nat} {t : TypeId} {cs : List Value} (hk : L[k]? = some (b, t, cs)) (hc : c < w0.heap.size) : c < b := Nat.lt_of_lt_of_le hc (h.base k hk)
theorem Own.perm (h : Own w0 w L) {M : List (Nat × TypeId × List Value)} (hp : List.Perm L M) : Own w0 w M :=
  ⟨h.grow, fun e he => h.blk e (hp.mem_iff.2 he), (hp.pairwise_iff (fun {_ _} e => Ne.symm e)).1 h.down⟩
theorem Own.swap {x y : Nat × TypeId × List Value} (h : Own w0 w (x :: y :: L)) : Own w0 w (y :: x :: L) := h.perm (List.Perm.swap y x L)
theorem Own.drop (h : Own w0 w L) {M : List (Nat × TypeId × List Value)} (hs : List.Sublist M L) : Own w0 w M := ⟨h.grow, fun e he => h.blk e (hs.mem he), h.down.sublist hs⟩
end
end Go.Proofs.Ytinmhefkmjlelaa.base

/- The contracts of package lang's Ok, Right, Opens, and of the document's own (quarrelref11.Ok, Right, Same). -/
namespace Go.Proofs.Ytinmhefkmjlelaa.lg
open Go Go.RowKit Go.Proofs.Ytinmhefkmjlelaa.base
set_option linter.unusedVariables false

theorem ret_bool {a b : Bool} (h : a = b) : Ending.returned (.bool a) = .returned (.bool b) := by rw [h]

theorem ok_any (k o a n : Int) (w : World) : Calls Try.prog 56 #[.agg #[.int .i64 k, .int .i64 o, .int .i64 a], .int .i64 n] w fun e w' => e = .returned (.bool (okB k o a n)) ∧ Hid (w.grownBy w' none) := by
  by_cases h : k = 1 ∨ k = 2 ∨ k = 5
  · rcases h with rfl | rfl | rfl
    all_goals
      go_enter Try.func56, Try.ntmps56
      go_wp2
      all_goals go_ret
      all_goals exact ⟨ret_bool (by first | (simp [okB, *]; done) | (simp [okB, *]; omega) | (rw [Bool.eq_iff_iff]; simp [okB, *]; done) | (rw [Bool.eq_iff_iff]; simp [okB, *]; omega)), gb_alloc (gb_refl _ _) _⟩
  · by_cases h2 : k = 3 ∨ k = 4
    · rcases h2 with rfl | rfl
      all_goals
        go_enter Try.func56, Try.ntmps56
        go_wp2
        all_goals go_ret
        all_goals exact ⟨ret_bool (by first | (simp [okB, *]; done) | (simp [okB, *]; omega) | (rw [Bool.eq_iff_iff]; simp [okB, *]; done) | (rw [Bool.eq_iff_iff]; simp [okB, *]; omega)), gb_alloc (gb_refl _ _) _⟩
    · have h1 : (k == 1) = false := by simp; omega
      have h2' : (k == 2) = false := by simp; omega
      have h3 : (k == 3) = false := by simp; omega
      have h4 : (k == 4) = false := by simp; omega
      have h5 : (k == 5) = false := by simp; omega
      have H := Lib.hid (show okB k o a n = false by simp [okB, h2]; omega)
      clear h h2
      go_enter Try.func56, Try.ntmps56
      go_wp2
      all_goals go_ret
      all_goals exact ⟨ret_bool H.out.symm, gb_alloc (gb_refl _ _) _⟩

theorem refok_any (k o a n : Int) (w : World) : Calls Try.prog 42 #[.agg #[.int .i64 k, .int .i64 o, .int .i64 a], .int .i64 n] w fun e w' => e = .returned (.bool (okB k o a n)) ∧ Hid (w.grownBy w' none) := by
  by_cases h0 : k < 1 ∨ 5 < k
  · have H := Lib.hid (show okB k o a n = false by unfold okB; rw [if_neg (by omega)]; simp; omega)
    rcases h0 with h0 | h0
    all_goals
      go_enter Try.func42, Try.ntmps42
      go_wp2
      all_goals go_ret
      all_goals exact ⟨ret_bool H.out.symm, gb_alloc (gb_refl _ _) _⟩
  · have hk : k = 1 ∨ k = 2 ∨ k = 3 ∨ k = 4 ∨ k = 5 := by omega
    clear h0
    rcases hk with rfl | rfl | rfl | rfl | rfl
    all_goals
      go_enter Try.func42, Try.ntmps42
      go_wp2
      all_goals go_ret
      all_goals exact ⟨ret_bool (by first | (simp [okB, *]; done) | (simp [okB, *]; omega) | (rw [Bool.eq_iff_iff]; simp [okB, *]; done) | (rw [Bool.eq_iff_iff]; simp [okB, *]; omega)), gb_alloc (gb_refl _ _) _⟩
end Go.Proofs.Ytinmhefkmjlelaa.lg

/- The contracts of package lang's Right, Opens, and of the document's own (quarrelref11.Right, Same). -/
namespace Go.Proofs.Ytinmhefkmjlelaa.lg
open Go Go.RowKit Go.Proofs.Ytinmhefkmjlelaa.base
set_option linter.unusedVariables false

theorem right_any (a1 : Option Addr) (len cap : Nat) (z : Nat → Nat → Int) (n : Int) (w : World) (hz : IsOps w a1 len z) :
    Calls Try.prog 45 #[.slice a1 len cap, .int .i64 n] w fun e w' => e = .returned (.bool (rightB z len n)) ∧ Hid (w.grownBy w' none) := by
  have Z := Lib.hid hz
  clear hz
  by_cases h0 : len = 0
  · subst h0
    go_enter Try.func45, Try.ntmps45
    go_wp2
    go_ret
    exact ⟨rfl, gb_refl _ _⟩
  by_cases h8 : 8 < len
  · have hd : decide ((8 : Int) < (len : Int)) = true := by simp; omega
    have hz' : ((len : Int) == 0) = false := by simp; omega
    have H := Lib.hid (show rightB z len n = false by simp [rightB]; omega)
    go_enter Try.func45, Try.ntmps45
    go_wp2
    go_ret
    exact ⟨ret_bool H.out.symm, gb_refl _ _⟩
  have hd : decide ((8 : Int) < (len : Int)) = false := by simp; omega
  have hz' : ((len : Int) == 0) = false := by simp; omega
  have H := Lib.hid (show rightB z len n = okN z n len by simp [rightB]; omega)
  go_enter Try.func45, Try.ntmps45
  go_wp2_with fail
  clear hd hz'
  go_loopw [17] (fun iv wr => ∃ k : Nat, k ≤ len ∧ iv = .int .i64 k ∧ Hid (okN z n k = true) ∧ Hid (w.grownBy wr none)) (fun iv _ => (len - intOf iv).toNat)
  case atStart => exact ⟨0, by omega, rfl, rfl, gb_refl _ _⟩
  case round =>
    obtain ⟨k, hk, rfl, K, B⟩ := hrel
    by_cases hlt : k < len
    · obtain ⟨b1, off1, rfl, hb1, c0, c1, c2⟩ := (Z.out.grown B.out).at3 hlt
      have hlt' : (k : Int) < (len : Int) := by omega
      cases hB : okB (z k 0) (z k 1) (z k 2) n with
      | false =>
        have HB := Lib.hid (okN_false hlt hB)
        generalize z k 0 = z0 at *
        generalize z k 1 = z1 at *
        generalize z k 2 = z2 at *
        have HO := Lib.hid (fun u => (hB ▸ ok_any z0 z1 z2 n u))
        clear hB
        go_wp2_with fail
        refine (HO.out _).mono ?_
        rintro e u ⟨rfl, g⟩
        have G := Lib.hid (gb_trans (gb_alloc B.out (.cells #[.int .i64 z0, .int .i64 z1, .int .i64 z2] 77)) g.out)
        clear g
        go_wp2
        go_ret
        exact ⟨ret_bool (H.out.trans HB.out).symm, G.out⟩
      | true =>
        have HB := Lib.hid (show okN z n (k + 1) = true by simp [okN, K.out, hB])
        generalize z k 0 = z0 at *
        generalize z k 1 = z1 at *
        generalize z k 2 = z2 at *
        have HO := Lib.hid (fun u => (hB ▸ ok_any z0 z1 z2 n u))
        clear hB
        go_wp2_with fail
        refine (HO.out _).mono ?_
        rintro e u ⟨rfl, g⟩
        have G := Lib.hid (gb_trans (gb_alloc B.out (.cells #[.int .i64 z0, .int .i64 z1, .int .i64 z2] 77)) g.out)
        clear g
        go_wp2
        go_roundw
        case rel => exact ⟨k + 1, by omega, by go_num, HB, G⟩
        case measure => simp [intOf]; omega
    · obtain rfl : k = len := by omega
      go_wp2
      go_ret
      exact ⟨ret_bool (H.out.trans K.out).symm, B⟩

theorem refright_any (a1 : Option Addr) (len cap : Nat) (z : Nat → Nat → Int) (n : Int) (w : World) (hz : IsOps w a1 len z) (hm : len ≤ maxLen) :
    Calls Try.prog 28 #[.slice a1 len cap, .int .i64 n] w fun e w' => e = .returned (.bool (rightB z len n)) ∧ Hid (w.grownBy w' none) := by
  have Z := Lib.hid hz
  clear hz
  unfold maxLen at hm
  go_enter Try.func28, Try.ntmps28
  go_wp2_with fail
  go_loopw [5] (fun iv wr => ∃ k : Nat, k ≤ len ∧ iv = .int .i64 k ∧ Hid (okN z n k = true) ∧ Hid (w.grownBy wr none)) (fun iv _ => (len - intOf iv).toNat)
  case atStart => exact ⟨0, by omega, rfl, rfl, gb_refl _ _⟩
  case round =>
    obtain ⟨k, hk, rfl, K, B⟩ := hrel
    by_cases hlt : k < len
    · obtain ⟨b1, off1, rfl, hb1, c0, c1, c2⟩ := (Z.out.grown B.out).at3 hlt
      have hlt' : (k : Int) < (len : Int) := by omega
      cases hB : okB (z k 0) (z k 1) (z k 2) n with
      | false =>
        have HB := Lib.hid (show rightB z len n = false by simp [rightB, okN_false hlt hB])
        generalize z k 0 = z0 at *
        generalize z k 1 = z1 at *
        generalize z k 2 = z2 at *
        have HO := Lib.hid (fun u => (hB ▸ refok_any z0 z1 z2 n u))
        clear hB
        go_wp2_with fail
        refine (HO.out _).mono ?_
        rintro e u ⟨rfl, g⟩
        have G := Lib.hid (gb_trans B.out g.out)
        clear g
        go_wp2
        go_ret
        exact ⟨ret_bool HB.out.symm, G.out⟩
      | true =>
        have HB := Lib.hid (show okN z n (k + 1) = true by simp [okN, K.out, hB])
        generalize z k 0 = z0 at *
        generalize z k 1 = z1 at *
        generalize z k 2 = z2 at *
        have HO := Lib.hid (fun u => (hB ▸ refok_any z0 z1 z2 n u))
        clear hB
        go_wp2_with fail
        refine (HO.out _).mono ?_
        rintro e u ⟨rfl, g⟩
        have G := Lib.hid (gb_trans B.out g.out)
        clear g
        go_wp2
        go_roundw
        case rel => exact ⟨k + 1, by omega, by go_num, HB, G⟩
        case measure => simp [intOf]; omega
    · obtain rfl : k = len := by omega
      have H := Lib.hid (show rightB z k n = (decide (0 < k) && decide (k < 9)) by simp [rightB, K.out])
      go_wp2
      all_goals go_ret
      all_goals exact ⟨ret_bool (by rw [H.out, Bool.eq_iff_iff]; simp; omega), B⟩

@[go_sem] theorem eqOp (a0 a1 a2 b0 b1 b2 : Int) (w : World) : (Op.equalIn 10000 77 (.agg #[.int .i64 a0, .int .i64 a1, .int .i64 a2]) (.agg #[.int .i64 b0, .int .i64 b1, .int .i64 b2])).run Try.prog w = .ok (a0 == b0 && a1 == b1 && a2 == b2) w := by
  have u3 := Try.underlying3
  have ag3 := Try.isAgg3
  have z3 := Try.sizeOf3
  have u4 := Try.underlying2
  have ag4 := Try.isAgg2
  have z4 := Try.sizeOf2
  rw [show (10000 : Nat) = 9999 + 1 from rfl, run_equalIn_struct _ _ _ _ _ (by kernel_rfl) (by kernel_rfl)]
  simp only [Program.fieldsOf, Try.underlying77]
  go_simp
  by_cases h0 : a0 = b0 <;> by_cases h1 : a1 = b1 <;> by_cases h2 : a2 = b2 <;> simp [h0, h1, h2]

theorem same_true (a1 a2 : Option Addr) (n c1 c2 : Nat) (z : Nat → Nat → Int) (w : World) (h1 : IsOps w a1 n z) (h2 : IsOps w a2 n z) (hm : n ≤ maxLen) :
    Calls Try.prog 25 #[.slice a1 n c1, .slice a2 n c2] w fun e w' => e = .returned (.bool true) ∧ Hid (w.grownBy w' none) := by
  have Z1 := Lib.hid h1
  have Z2 := Lib.hid h2
  clear h1 h2
  unfold maxLen at hm
  go_enter Try.func25, Try.ntmps25
  go_wp2_with fail
  go_loopw [5] (fun iv wr => ∃ k : Nat, k ≤ n ∧ iv = .int .i64 k ∧ Hid (w.grownBy wr none)) (fun iv _ => (n - intOf iv).toNat)
  case atStart => exact ⟨0, by omega, rfl, gb_refl _ _⟩
  case round =>
    obtain ⟨k, hk, rfl, B⟩ := hrel
    by_cases hlt : k < n
    · obtain ⟨b1, off1, rfl, hb1, c0, c1, c2⟩ := (Z1.out.grown B.out).at3 hlt
      obtain ⟨b2, off2, rfl, hb2, d0, d1, d2⟩ := (Z2.out.grown B.out).at3 hlt
      have hlt' : (k : Int) < (n : Int) := by omega
      generalize z k 0 = z0 at *
      generalize z k 1 = z1 at *
      generalize z k 2 = z2 at *
      go_wp2_with fail
      go_quiet (fail)
      go_wp2
      go_roundw
      case rel => exact ⟨k + 1, by omega, by go_num, by first | exact gb_drewN B.out _ | exact gb_drew (gb_drewN B.out _)⟩
      case measure => simp [intOf]; omega
    · obtain rfl : k = n := by omega
      go_wp2
      go_ret
      exact ⟨rfl, B⟩
end Go.Proofs.Ytinmhefkmjlelaa.lg

/- append, at the types of this program: []int64, []api.Op, []byte: onto a slice of one's own, of whatever slice. -/
namespace Go.Proofs.Ytinmhefkmjlelaa.lg
open Go Go.RowKit Go.Proofs.Ytinmhefkmjlelaa.base
set_option linter.unusedVariables false

theorem info64 : (Try.prog.info? 2).map (fun i => (i.zero, i.size, i.bytes)) = some (some (.int .i64 0), 1, 8) := by kernel_rfl

theorem append64 (w : World) {ops : Array Oper} {rest : List Oper} {o : Oper} {a : Act} {Q : Exit → Act → World → Prop}
    (hgd : o.guard = none) (s x : Operand) (hop : o.op = Op.call { callee := Callee.builtin Builtin.append, args := #[s, x], argTypes := #[26, 26] }) (base : Nat)
    (v : Value) (n : Nat) (xs : List Value) (hs : a.eval s = v) (hown : w.ownsRow base 2 1 v n xs)
    (ao : Option Addr) (m c : Nat) (news : List Value) (hx : a.eval x = .slice ao m c) (hl : news.length = m * 1) (hsrc : (m = 0 ∧ news = []) ∨ ∃ ad, ao = some ad ∧ ∀ j u, news[j]? = some u → w.cell? (ad.add j) = some u) (h1c : ∀ u ∈ news, u.oneCell' = true)
    (hn : n + m ≤ 1000000) (hbase : base ≤ w.heap.size)
    (hK : ∀ b' cap w', w'.ownsRow base 2 1 (.slice b' (n + m) cap) (n + m) (xs ++ news) → w.grownBy w' v.ownBlock → ((Value.slice b' (n + m) cap).ownBlock = v.ownBlock ∨ ∃ k, (Value.slice b' (n + m) cap).ownBlock = some k ∧ w.heap.size ≤ k) → wpList Try.prog ops Q rest (a.put o.dst (.slice b' (n + m) cap)) w') :
    wpList Try.prog ops Q (o :: rest) a w := by
  obtain ⟨i0, hi, hz0, hz1, hz2⟩ := info_parts info64
  exact wpList_append_any w hgd s x 26 hop base 2 i0 (.int .i64 0) 1 8 Try.underlying26 hi hz0 hz1 hz2 rfl (by decide) v n xs hs hown ao m c news hx hl hsrc h1c (by unfold maxLen; omega) (by omega) hbase hK

theorem infoOp : (Try.prog.info? 77).map (fun i => (i.zero, i.size, i.bytes)) = some (some (.agg #[.int .i64 0, .int .i64 0, .int .i64 0]), 3, 24) := by kernel_rfl

theorem appendOp (w : World) {ops : Array Oper} {rest : List Oper} {o : Oper} {a : Act} {Q : Exit → Act → World → Prop}
    (hgd : o.guard = none) (s x : Operand) (hop : o.op = Op.call { callee := Callee.builtin Builtin.append, args := #[s, x], argTypes := #[60, 60] }) (base : Nat)
    (v : Value) (n : Nat) (xs : List Value) (hs : a.eval s = v) (hown : w.ownsRow base 77 3 v n xs)
    (ao : Option Addr) (m c : Nat) (news : List Value) (hx : a.eval x = .slice ao m c) (hl : news.length = m * 3) (hsrc : (m = 0 ∧ news = []) ∨ ∃ ad, ao = some ad ∧ ∀ j u, news[j]? = some u → w.cell? (ad.add j) = some u) (h1c : ∀ u ∈ news, u.oneCell' = true)
    (hn : n + m ≤ 1000000) (hbase : base ≤ w.heap.size)
    (hK : ∀ b' cap w', w'.ownsRow base 77 3 (.slice b' (n + m) cap) (n + m) (xs ++ news) → w.grownBy w' v.ownBlock → ((Value.slice b' (n + m) cap).ownBlock = v.ownBlock ∨ ∃ k, (Value.slice b' (n + m) cap).ownBlock = some k ∧ w.heap.size ≤ k) → wpList Try.prog ops Q rest (a.put o.dst (.slice b' (n + m) cap)) w') :
    wpList Try.prog ops Q (o :: rest) a w := by
  obtain ⟨i0, hi, hz0, hz1, hz2⟩ := info_parts infoOp
  exact wpList_append_any w hgd s x 60 hop base 77 i0 (.agg #[.int .i64 0, .int .i64 0, .int .i64 0]) 3 24 Try.underlying60 hi hz0 hz1 hz2 rfl (by decide) v n xs hs hown ao m c news hx hl hsrc h1c (by unfold maxLen; omega) (by omega) hbase hK

theorem infoU8 : (Try.prog.info? 5).map (fun i => (i.zero, i.size, i.bytes)) = some (some (.int .u8 0), 1, 1) := by kernel_rfl

theorem appendU8 (w : World) {ops : Array Oper} {rest : List Oper} {o : Oper} {a : Act} {Q : Exit → Act → World → Prop}
    (hgd : o.guard = none) (s x : Operand) (hop : o.op = Op.call { callee := Callee.builtin Builtin.append, args := #[s, x], argTypes := #[22, 22] }) (base : Nat)
    (v : Value) (n : Nat) (xs : List Value) (hs : a.eval s = v) (hown : w.ownsRow base 5 1 v n xs)
    (ao : Option Addr) (m c : Nat) (news : List Value) (hx : a.eval x = .slice ao m c) (hl : news.length = m * 1) (hsrc : (m = 0 ∧ news = []) ∨ ∃ ad, ao = some ad ∧ ∀ j u, news[j]? = some u → w.cell? (ad.add j) = some u) (h1c : ∀ u ∈ news, u.oneCell' = true)
    (hn : n + m ≤ 1000000) (hbase : base ≤ w.heap.size)
    (hK : ∀ b' cap w', w'.ownsRow base 5 1 (.slice b' (n + m) cap) (n + m) (xs ++ news) → w.grownBy w' v.ownBlock → ((Value.slice b' (n + m) cap).ownBlock = v.ownBlock ∨ ∃ k, (Value.slice b' (n + m) cap).ownBlock = some k ∧ w.heap.size ≤ k) → wpList Try.prog ops Q rest (a.put o.dst (.slice b' (n + m) cap)) w') :
    wpList Try.prog ops Q (o :: rest) a w := by
  obtain ⟨i0, hi, hz0, hz1, hz2⟩ := info_parts infoU8
  exact wpList_append_any w hgd s x 22 hop base 5 i0 (.int .u8 0) 1 1 Try.underlying22 hi hz0 hz1 hz2 rfl (by decide) v n xs hs hown ao m c news hx hl hsrc h1c (by unfold maxLen; omega) (by omega) hbase hK

theorem step64 {w : World} {ops : Array Oper} {o : Oper} {a : Act} {K : Act → World → Prop} {Q : Exit → Act → World → Prop} {E : Prop}
    (hgd : o.guard = none) (s x : Operand) (hop : o.op = Op.call { callee := Callee.builtin Builtin.append, args := #[s, x], argTypes := #[26, 26] }) (base : Nat)
    (v : Value) (n : Nat) (xs : List Value) (hs : a.eval s = v) (hown : w.ownsRow base 2 1 v n xs)
    (ao : Option Addr) (m c : Nat) (news : List Value) (hx : a.eval x = .slice ao m c) (hl : news.length = m * 1) (hsrc : (m = 0 ∧ news = []) ∨ ∃ ad, ao = some ad ∧ ∀ j u, news[j]? = some u → w.cell? (ad.add j) = some u) (h1c : ∀ u ∈ news, u.oneCell' = true)
    (hn : n + m ≤ 1000000) (hbase : base ≤ w.heap.size)
    (hK : ∀ b' cap w', w'.ownsRow base 2 1 (.slice b' (n + m) cap) (n + m) (xs ++ news) → w.grownBy w' v.ownBlock → ((Value.slice b' (n + m) cap).ownBlock = v.ownBlock ∨ ∃ k, (Value.slice b' (n + m) cap).ownBlock = some k ∧ w.heap.size ≤ k) → K (a.put o.dst (.slice b' (n + m) cap)) w') :
    if Region.wanted o (yielded ops a.tmps) = true then Oper.wp Try.prog o a w K Q else E := by
  have hw : Region.wanted o (yielded ops a.tmps) = true := by simp [Region.wanted, hgd]
  rw [if_pos hw]
  obtain ⟨i0, hi, hz0, hz1, hz2⟩ := info_parts info64
  obtain ⟨v', w', hrun, r1, r2, r3⟩ := run_append_any (P := Try.prog) w base 26 o.type 2 i0 (.int .i64 0) 1 8 Try.underlying26 hi hz0 hz1 hz2 rfl (by decide) v n xs hown ao m c news hl hsrc h1c (by unfold maxLen; omega) (by omega) hbase
  obtain ⟨b', cap, rfl⟩ : ∃ b' cap, v' = .slice b' (n + m) cap := by
    rcases r1.2 with ⟨rfl, h0⟩ | ⟨g, cap, cur, rfl, _⟩
    · exact ⟨none, 0, by rw [h0]⟩
    · exact ⟨_, cap, rfl⟩
  unfold Oper.wp
  simp [execOp, hop, resolve, invoke, builtin, hs, hx, hrun, Result.andThen]
  exact hK b' cap w' r1 r2 r3

theorem stepOp {w : World} {ops : Array Oper} {o : Oper} {a : Act} {K : Act → World → Prop} {Q : Exit → Act → World → Prop} {E : Prop}
    (hgd : o.guard = none) (s x : Operand) (hop : o.op = Op.call { callee := Callee.builtin Builtin.append, args := #[s, x], argTypes := #[60, 60] }) (base : Nat)
    (v : Value) (n : Nat) (xs : List Value) (hs : a.eval s = v) (hown : w.ownsRow base 77 3 v n xs)
    (ao : Option Addr) (m c : Nat) (news : List Value) (hx : a.eval x = .slice ao m c) (hl : news.length = m * 3) (hsrc : (m = 0 ∧ news = []) ∨ ∃ ad, ao = some ad ∧ ∀ j u, news[j]? = some u → w.cell? (ad.add j) = some u) (h1c : ∀ u ∈ news, u.oneCell' = true)
    (hn : n + m ≤ 1000000) (hbase : base ≤ w.heap.size)
    (hK : ∀ b' cap w', w'.ownsRow base 77 3 (.slice b' (n + m) cap) (n + m) (xs ++ news) → w.grownBy w' v.ownBlock → ((Value.slice b' (n + m) cap).ownBlock = v.ownBlock ∨ ∃ k, (Value.slice b' (n + m) cap).ownBlock = some k ∧ w.heap.size ≤ k) → K (a.put o.dst (.slice b' (n + m) cap)) w') :
    if Region.wanted o (yielded ops a.tmps) = true then Oper.wp Try.prog o a w K Q else E := by
  have hw : Region.wanted o (yielded ops a.tmps) = true := by simp [Region.wanted, hgd]
  rw [if_pos hw]
  obtain ⟨i0, hi, hz0, hz1, hz2⟩ := info_parts infoOp
  obtain ⟨v', w', hrun, r1, r2, r3⟩ := run_append_any (P := Try.prog) w base 60 o.type 77 i0 (.agg #[.int .i64 0, .int .i64 0, .int .i64 0]) 3 24 Try.underlying60 hi hz0 hz1 hz2 rfl (by decide) v n xs hown ao m c news hl hsrc h1c (by unfold maxLen; omega) (by omega) hbase
  obtain ⟨b', cap, rfl⟩ : ∃ b' cap, v' = .slice b' (n + m) cap := by
    rcases r1.2 with ⟨rfl, h0⟩ | ⟨g, cap, cur, rfl, _⟩
    · exact ⟨none, 0, by rw [h0]⟩
    · exact ⟨_, cap, rfl⟩
  unfold Oper.wp
  simp [execOp, hop, resolve, invoke, builtin, hs, hx, hrun, Result.andThen]
  exact hK b' cap w' r1 r2 r3

theorem stepU8 {w : World} {ops : Array Oper} {o : Oper} {a : Act} {K : Act → World → Prop} {Q : Exit → Act → World → Prop} {E : Prop}
    (hgd : o.guard = none) (s x : Operand) (hop : o.op = Op.call { callee := Callee.builtin Builtin.append, args := #[s, x], argTypes := #[22, 22] }) (base : Nat)
    (v : Value) (n : Nat) (xs : List Value) (hs : a.eval s = v) (hown : w.ownsRow base 5 1 v n xs)
    (ao : Option Addr) (m c : Nat) (news : List Value) (hx : a.eval x = .slice ao m c) (hl : news.length = m * 1) (hsrc : (m = 0 ∧ news = []) ∨ ∃ ad, ao = some ad ∧ ∀ j u, news[j]? = some u → w.cell? (ad.add j) = some u) (h1c : ∀ u ∈ news, u.oneCell' = true)
    (hn : n + m ≤ 1000000) (hbase : base ≤ w.heap.size)
    (hK : ∀ b' cap w', w'.ownsRow base 5 1 (.slice b' (n + m) cap) (n + m) (xs ++ news) → w.grownBy w' v.ownBlock → ((Value.slice b' (n + m) cap).ownBlock = v.ownBlock ∨ ∃ k, (Value.slice b' (n + m) cap).ownBlock = some k ∧ w.heap.size ≤ k) → K (a.put o.dst (.slice b' (n + m) cap)) w') :
    if Region.wanted o (yielded ops a.tmps) = true then Oper.wp Try.prog o a w K Q else E := by
  have hw : Region.wanted o (yielded ops a.tmps) = true := by simp [Region.wanted, hgd]
  rw [if_pos hw]
  obtain ⟨i0, hi, hz0, hz1, hz2⟩ := info_parts infoU8
  obtain ⟨v', w', hrun, r1, r2, r3⟩ := run_append_any (P := Try.prog) w base 22 o.type 5 i0 (.int .u8 0) 1 1 Try.underlying22 hi hz0 hz1 hz2 rfl (by decide) v n xs hown ao m c news hl hsrc h1c (by unfold maxLen; omega) (by omega) hbase
  obtain ⟨b', cap, rfl⟩ : ∃ b' cap, v' = .slice b' (n + m) cap := by
    rcases r1.2 with ⟨rfl, h0⟩ | ⟨g, cap, cur, rfl, _⟩
    · exact ⟨none, 0, by rw [h0]⟩
    · exact ⟨_, cap, rfl⟩
  unfold Oper.wp
  simp [execOp, hop, resolve, invoke, builtin, hs, hx, hrun, Result.andThen]
  exact hK b' cap w' r1 r2 r3

end Go.Proofs.Ytinmhefkmjlelaa.lg

/- Lists of things of some cells each, as rows of cells; one's own blocks by their shape: plain facts, of no program. -/
namespace Go.Proofs.Ytinmhefkmjlelaa.base
open Go Go.RowKit Go.Proofs.Ytinmhefkmjlelaa.lg

/-- The cells of a list of things. -/
def rows {α : Type} (f : α → List Value) (l : List α) : List Value := l.flatMap f

/-- A list of blocks: their numbers, types, cells. -/
abbrev Blks := List (Nat × TypeId × List Value)

/-- A slice of things lies where a says. -/
def IsL {α : Type} (f : α → List Value) (w : World) (a : Option Addr) (l : List α) : Prop :=
  l = [] ∨ ∃ b off, a = some ⟨b, off, none⟩ ∧ b < w.heap.size ∧ ∀ j u, (rows f l)[j]? = some u → w.cell? ⟨b, off + j, none⟩ = some u

/-- v is a slice of one's own of the things of l, of type e, k cells each; its blocks are those of L: none or one. -/
def Row {α : Type} (f : α → List Value) (k : Nat) (e : TypeId) (l : List α) (v : Value) (L : Blks) : Prop :=
  (l = [] ∧ v = .slice none 0 0 ∧ L = []) ∨ ∃ g cap cur, v = .slice (some ⟨g, 0, none⟩) l.length cap ∧ L = [(g, e, cur)] ∧ l.length ≤ cap ∧ cap ≤ maxLen ∧ cur.length = cap * k ∧ cur.take (l.length * k) = rows f l

/-- Among one's own blocks stand some of this shape, in front of R. -/
def Has (S : Blks → Prop) (w0 w : World) (R : Blks) : Prop := ∃ X, S X ∧ Own w0 w (X ++ R)

section
variable {α : Type} {f : α → List Value} {k : Nat} {l : List α}
theorem rows_length (hf : ∀ x, (f x).length = k) (l : List α) : (rows f l).length = l.length * k := by
  induction l with
  | nil => simp [rows]
  | cons x l ih =>
    simp only [rows, List.flatMap_cons, List.length_append, List.length_cons] at *
    rw [ih, hf, Nat.add_mul]
    omega
theorem rows_append (l m : List α) : rows f (l ++ m) = rows f l ++ rows f m := by simp [rows]
theorem rows_one (x : α) : rows f [x] = f x := by simp [rows]
theorem rows_snoc (l : List α) (x : α) : rows f (l ++ [x]) = rows f l ++ f x := by simp [rows]
theorem rows_get (hf : ∀ x, (f x).length = k) : ∀ (l : List α) (j i : Nat) (x : α), l[j]? = some x → i < k → (rows f l)[j * k + i]? = (f x)[i]?
  | [], j, i, x, h, _ => by simp at h
  | y :: l, 0, i, x, h, hi => by
    simp at h
    subst h
    simp only [rows, List.flatMap_cons, Nat.zero_mul, Nat.zero_add]
    rw [List.getElem?_append_left (by rw [hf]; exact hi)]
  | y :: l, j + 1, i, x, h, hi => by
    have ih := rows_get hf l j i x (by simpa using h) hi
    simp only [rows, List.flatMap_cons]
    rw [List.getElem?_append_right (by rw [hf, Nat.succ_mul]; omega), hf, ← ih]
    simp only [rows]
    congr 1
    rw [Nat.succ_mul]
    omega
theorem rows_ext (hf : ∀ x, (f x).length = k) (hk : 0 < k) (l : List α) (cs : List Value) (hl : cs.length = l.length * k) (h : ∀ j i x, l[j]? = some x → i < k → cs[j * k + i]? = (f x)[i]?) : cs = rows f l := by
  apply List.ext_getElem?
  intro n
  by_cases hn : n < l.length * k
  · have e : n = n / k * k + n % k := (Nat.div_add_mod' n k).symm
    have hj : n / k < l.length := Nat.div_lt_of_lt_mul (by rw [Nat.mul_comm]; exact hn)
    rw [e, h _ _ _ (List.getElem?_eq_getElem hj) (Nat.mod_lt _ hk), rows_get hf _ _ _ _ (List.getElem?_eq_getElem hj) (Nat.mod_lt _ hk)]
  · rw [List.getElem?_eq_none (by omega), List.getElem?_eq_none (by rw [rows_length hf]; omega)]
theorem rows_one_cell (h1 : ∀ x, ∀ u ∈ f x, u.oneCell' = true) (l : List α) : ∀ u ∈ rows f l, u.oneCell' = true := by
  intro u hu
  obtain ⟨x, _, hx⟩ := List.mem_flatMap.1 hu
  exact h1 x u hx
end

section
variable {α : Type} {f : α → List Value} {k : Nat} {l l' : List α} {w w' w0 w1 : World} {a : Option Addr} {e : TypeId} {v v' : Value} {L R Q : Blks}
theorem IsL.keep (h : IsL f w a l) (g : ∀ b off, a = some ⟨b, off, none⟩ → b < w.heap.size → w'.heap[b]? = w.heap[b]?) (hs : w.heap.size ≤ w'.heap.size) : IsL f w' a l := by
  rcases h with h | ⟨b, off, rfl, hb, h⟩
  · exact .inl h
  · exact .inr ⟨b, off, rfl, by omega, fun j u hu => (World.cell?_of_block (g b off rfl hb)).trans (h j u hu)⟩
theorem IsL.grown (h : IsL f w a l) (g : w.grownBy w' none) : IsL f w' a l := h.keep (fun b _ _ hb => g.block b hb (by simp)) g.size
theorem IsL.below (h : IsL f w a l) (g : Below w.heap.size w w') : IsL f w' a l := h.keep (fun b _ _ hb => g.block b hb) g.size
theorem IsL.alloc (h : IsL f w a l) (o : Obj) : IsL f (w.alloc o) a l := h.grown (World.grownBy_alloc w o none)
theorem IsL.drew (h : IsL f w a l) : IsL f w.drew a l := h
theorem IsL.drewN (h : IsL f w a l) (n : Nat) : IsL f (w.drewN n) a l := h
theorem IsL.nil : IsL f w a [] := .inl rfl
theorem IsL.at (h : IsL f w a l) (hf : ∀ x, (f x).length = k) {j : Nat} {x : α} (hj : l[j]? = some x) : ∃ b off, a = some ⟨b, off, none⟩ ∧ b < w.heap.size ∧ ∀ i u, (f x)[i]? = some u → w.cell? ⟨b, off + j * k + i, none⟩ = some u := by
  rcases h with rfl | ⟨b, off, rfl, hb, h⟩
  · simp at hj
  · refine ⟨b, off, rfl, hb, fun i u hu => ?_⟩
    have hi : i < k := by have := (List.getElem?_eq_some_iff.1 hu).1; rw [hf] at this; exact this
    rw [Nat.add_assoc]
    exact h _ _ ((rows_get hf l j i x hj hi).trans hu)
theorem IsL.src (h : IsL f w a l) : (l.length = 0 ∧ rows f l = []) ∨ ∃ ad, a = some ad ∧ ∀ j u, (rows f l)[j]? = some u → w.cell? (ad.add j) = some u := by
  rcases h with rfl | ⟨b, off, rfl, hb, h⟩
  · exact .inl ⟨rfl, rfl⟩
  · exact .inr ⟨_, rfl, fun j u hu => by rw [add_eq]; exact h j u hu⟩
theorem IsL.of_own {base n cap : Nat} (h : w.ownsRow base e k (.slice a n cap) n (rows f l)) (hf : ∀ x, (f x).length = k) (hn : n = l.length) : IsL f w a l := by
  rcases h.2 with ⟨_, h0⟩ | ⟨g, cap2, cur, e, hb, hg, _⟩
  · exact .inl (List.eq_nil_of_length_eq_zero (by omega))
  · injection e with e1 e2 e3
    subst e1
    refine .inr ⟨g, 0, rfl, lt_of_block hg, fun j u hu => ?_⟩
    have hj : j < n * k := by have := (List.getElem?_eq_some_iff.1 hu).1; rw [rows_length hf] at this; rw [hn]; exact this
    rw [Nat.zero_add]
    exact (h.cellAt j hj).trans hu

theorem Own.fresh (h : Own w0 w R) (g : w.grownBy w' none) {q : Nat} {cur : List Value} (hq : w.heap.size ≤ q) (hb : Blk e w' q ⟨cur⟩) : Own w0 w' ((q, e, cur) :: R) := by
  refine ⟨gb_trans h.grow g, ?_, ?_⟩
  · intro x hx
    rcases List.mem_cons.1 hx with rfl | hx
    · exact ⟨Nat.le_trans h.grow.size hq, hb⟩
    · exact ⟨(h.blk x hx).1, (h.blk x hx).2.grown g (by simp)⟩
  · exact List.pairwise_cons.2 ⟨fun x hx => Nat.ne_of_gt (Nat.lt_of_lt_of_le (h.blk x hx).2.lt hq), h.down⟩
/-- The first one was written, whatever it is now. -/
theorem Own.lose {b : Nat} {t : TypeId} {cs : List Value} (h : Own w0 w ((b, t, cs) :: R)) (g : w.grownBy w' (some b)) : Own w0 w' R := by
  have hd := List.pairwise_cons.1 h.down
  refine ⟨gb_over h.grow g (h.base 0 rfl), fun x hx => ⟨(h.blk x (List.mem_cons_of_mem _ hx)).1, (h.blk x (List.mem_cons_of_mem _ hx)).2.grown g ?_⟩, hd.2⟩
  intro e1
  cases e1
  exact hd.1 x hx rfl
theorem Own.mid {b : Nat × TypeId × List Value} : Own w0 w (b :: (L ++ R)) ↔ Own w0 w (L ++ (b :: R)) := ⟨fun h => h.perm List.perm_middle.symm, fun h => h.perm List.perm_middle⟩
theorem Own.comm {A B : Blks} (h : Own w0 w (A ++ (B ++ R))) : Own w0 w (B ++ (A ++ R)) := h.perm (by rw [← List.append_assoc, ← List.append_assoc]; exact List.perm_append_comm.append_right R)

theorem Row.owns (h : Row f k e l v L) (hf : ∀ x, (f x).length = k) (o : Own w0 w (L ++ R)) : w.ownsRow w0.heap.size e k v l.length (rows f l) := by
  refine ⟨rows_length hf l, ?_⟩
  rcases h with ⟨rfl, rfl, rfl⟩ | ⟨g, cap, cur, rfl, rfl, h1, h2, h3, h4⟩
  · exact .inl ⟨rfl, rfl⟩
  · exact .inr ⟨g, cap, ⟨cur⟩, rfl, o.base 0 rfl, o.get 0 rfl, h1, h2, by simpa using h3, by simpa using h4⟩
theorem Row.slice (h : Row f k e l v L) : ∃ a cap, v = .slice a l.length cap := by
  rcases h with ⟨rfl, rfl, rfl⟩ | ⟨g, cap, cur, rfl, rfl, _⟩
  · exact ⟨none, 0, rfl⟩
  · exact ⟨_, cap, rfl⟩
theorem Row.isL (h : Row f k e l v L) (hf : ∀ x, (f x).length = k) (o : Own w0 w (L ++ R)) : ∃ a cap, v = .slice a l.length cap ∧ IsL f w a l := by
  obtain ⟨a, cap, rfl⟩ := h.slice
  exact ⟨a, cap, rfl, IsL.of_own (h.owns hf o) hf rfl⟩
theorem Row.nil : Row f k e ([] : List α) (.slice none 0 0) [] := .inl ⟨rfl, rfl, rfl⟩
theorem Row.of_own {base n : Nat} (o : Own w0 w R) (g : w.grownBy w' none) (h : w'.ownsRow base e k v n (rows f l)) (hb : w.heap.size ≤ base) (hn : n = l.length) : ∃ L, Row f k e l v L ∧ Own w0 w' (L ++ R) := by
  subst hn
  rcases h.2 with ⟨rfl, h0⟩ | ⟨q, cap, cur, rfl, hq, hg, h1, h2, h3, h4⟩
  · exact ⟨[], .inl ⟨List.eq_nil_of_length_eq_zero h0, rfl, rfl⟩, o.grown g⟩
  · exact ⟨[(q, e, cur.toList)], .inr ⟨q, cap, cur.toList, rfl, rfl, h1, h2, by simpa using h3, h4⟩, o.fresh g (Nat.le_trans hb hq) hg⟩
/-- It was appended to. -/
theorem Row.grow {n : Nat} (h : Row f k e l v L) (o : Own w0 w (L ++ R)) (h' : w1.ownsRow w0.heap.size e k v' n (rows f l')) (hn : n = l'.length) (g : w.grownBy w1 v.ownBlock) (hv : v'.ownBlock = v.ownBlock ∨ ∃ q, v'.ownBlock = some q ∧ w.heap.size ≤ q) :
    ∃ L', Row f k e l' v' L' ∧ Own w0 w1 (L' ++ R) := by
  subst hn
  rcases h'.2 with ⟨rfl, h0⟩ | ⟨q, cap, cur, rfl, hq, hg, h1, h2, h3, h4⟩
  · refine ⟨[], .inl ⟨List.eq_nil_of_length_eq_zero h0, rfl, rfl⟩, ?_⟩
    rcases h with ⟨rfl, rfl, rfl⟩ | ⟨g0, cap0, cur0, rfl, rfl, _⟩
    · exact o.grown g
    · exact Own.lose o g
  · refine ⟨[(q, e, cur.toList)], .inr ⟨q, cap, cur.toList, rfl, rfl, h1, h2, by simpa using h3, h4⟩, ?_⟩
    rcases h with ⟨rfl, rfl, rfl⟩ | ⟨g0, cap0, cur0, rfl, rfl, _⟩
    · rcases hv with hv | ⟨q', hv, hq'⟩
      · simp [Value.ownBlock] at hv
      · simp only [Value.ownBlock, Option.some.injEq] at hv
        subst hv
        exact Own.fresh o g hq' hg
    · rcases hv with hv | ⟨q', hv, hq'⟩
      · simp only [Value.ownBlock, Option.some.injEq] at hv
        subst hv
        exact o.change 0 rfl g hg
      · simp only [Value.ownBlock, Option.some.injEq] at hv
        subst hv
        have o2 := Own.lose o g
        refine ⟨o2.grow, ?_, ?_⟩
        · intro x hx
          rcases List.mem_cons.1 hx with rfl | hx
          · exact ⟨hq, hg⟩
          · exact o2.blk x hx
        · exact List.pairwise_cons.2 ⟨fun x hx => Nat.ne_of_gt (Nat.lt_of_lt_of_le (o.blk x (List.mem_cons_of_mem _ hx)).2.lt hq'), o2.down⟩
/-- One thing was appended. -/
theorem Row.snoc {x : α} {w2 : World} {g' c' : Nat} (h : Row f k e l v L) (o : Own w0 w (L ++ R)) (hw : w.grownBy w2 none) (ho : w1.ownsRow w0.heap.size e k (.slice (some ⟨g', 0, none⟩) (l.length + 1) c') (l.length + 1) (rows f l ++ f x)) (hg : w2.grownBy w1 v.ownBlock) (hv : some g' = v.ownBlock ∨ w2.heap.size ≤ g') :
    ∃ L', Row f k e (l ++ [x]) (.slice (some ⟨g', 0, none⟩) (l.length + 1) c') L' ∧ Own w0 w1 (L' ++ R) :=
  Row.grow h (o.grown hw) (by rw [rows_snoc]; exact ho) (by simp) hg (hv.elim .inl (fun h => .inr ⟨g', rfl, h⟩))
/-- Its cells were written. -/
theorem Row.write {g cap : Nat} {cur' : List Value} (h : Row f k e l (.slice (some ⟨g, 0, none⟩) l.length cap) L) (o : Own w0 w (L ++ R)) (hg : w.grownBy w1 (some g)) (hb : Blk e w1 g ⟨cur'⟩) (hl : cur'.length = cap * k) (hn : l'.length ≤ cap) (ht : cur'.take (l'.length * k) = rows f l') :
    ∃ L', Row f k e l' (.slice (some ⟨g, 0, none⟩) l'.length cap) L' ∧ Own w0 w1 (L' ++ R) := by
  rcases h with ⟨rfl, h, rfl⟩ | ⟨g0, cap0, cur0, h, rfl, h1, h2, h3, h4⟩
  · cases h
  · injection h with e1 e2 e3
    injection e1 with e1
    injection e1 with e1
    subst e1; subst e3
    exact ⟨[(g, e, cur')], .inr ⟨g, cap, cur', rfl, rfl, hn, h2, hl, ht⟩, o.change 0 rfl hg hb⟩
theorem Row.open {g cap : Nat} (h : Row f k e l (.slice (some ⟨g, 0, none⟩) l.length cap) L) (o : Own w0 w (L ++ R)) : ∃ cur, Blk e w g ⟨cur⟩ ∧ cur.length = cap * k ∧ l.length ≤ cap ∧ cap ≤ maxLen ∧ cur.take (l.length * k) = rows f l := by
  rcases h with ⟨rfl, h, rfl⟩ | ⟨g0, cap0, cur0, h, rfl, h1, h2, h3, h4⟩
  · cases h
  · injection h with e1 e2 e3
    injection e1 with e1
    injection e1 with e1
    subst e1; subst e3
    exact ⟨cur0, o.get 0 rfl, h3, h1, h2, h4⟩
theorem Row.some (h : Row f k e l v L) (hn : 0 < l.length) : ∃ g cap, v = .slice (some ⟨g, 0, none⟩) l.length cap := by
  rcases h with ⟨rfl, rfl, rfl⟩ | ⟨g, cap, cur, rfl, _⟩
  · simp at hn
  · exact ⟨g, cap, rfl⟩
end

section
variable {S S' : Blks → Prop} {w0 w w' : World} {R M : Blks}
theorem Has.own (h : Has S w0 w R) : Own w0 w R := by
  obtain ⟨X, _, o⟩ := h
  exact o.drop (List.sublist_append_right _ _)
theorem Has.grown (h : Has S w0 w R) (g : w.grownBy w' none) : Has S w0 w' R := by
  obtain ⟨X, hX, o⟩ := h
  exact ⟨X, hX, o.grown g⟩
theorem Has.drew (h : Has S w0 w R) : Has S w0 w.drew R := by
  obtain ⟨X, hX, o⟩ := h
  exact ⟨X, hX, o.drew⟩
theorem Has.drewN (h : Has S w0 w R) (n : Nat) : Has S w0 (w.drewN n) R := by
  obtain ⟨X, hX, o⟩ := h
  exact ⟨X, hX, o.drewN n⟩
theorem Has.skip (h : Has S w0 w R) (o : Obj) : Has S w0 (w.alloc o) R := h.grown (World.grownBy_alloc w o none)
theorem Has.alloc (h : Has S w0 w R) (t : TypeId) (cs : List Value) : Has S w0 (w.alloc (.cells ⟨cs⟩ t)) ((w.heap.size, t, cs) :: R) := by
  obtain ⟨X, hX, o⟩ := h
  exact ⟨X, hX, Own.mid.1 (o.alloc t cs)⟩
theorem Has.change (h : Has S w0 w R) (k : Nat) {c : Nat} {t : TypeId} {cs ds : List Value} (hk : R[k]? = some (c, t, cs)) (g : w.grownBy w' (some c)) (hb : Blk t w' c ⟨ds⟩) : Has S w0 w' (R.set k (c, t, ds)) := by
  obtain ⟨X, hX, o⟩ := h
  refine ⟨X, hX, ?_⟩
  have := o.change (X.length + k) (by rw [List.getElem?_append_right (by omega)]; simpa using hk) g hb
  rw [List.set_append, if_neg (by omega)] at this
  simpa using this
theorem Has.set (h : Has S w0 w R) (k j : Nat) (u : Value) {c : Nat} {t : TypeId} {cs : List Value} (hk : R[k]? = some (c, t, cs)) : Has S w0 (w.setCell ⟨c, j, none⟩ u) (R.set k (c, t, cs.set j u)) :=
  h.change k hk (gb_setB (gb_refl _ _) u) (by simpa using (h.own.get k hk).set j u)
theorem Has.drop (h : Has S w0 w R) (hs : List.Sublist M R) : Has S w0 w M := by
  obtain ⟨X, hX, o⟩ := h
  exact ⟨X, hX, o.drop (List.Sublist.append (List.Sublist.refl _) hs)⟩
theorem Has.perm (h : Has S w0 w R) (hp : List.Perm R M) : Has S w0 w M := by
  obtain ⟨X, hX, o⟩ := h
  exact ⟨X, hX, o.perm (hp.append_left X)⟩
theorem Has.below (h : Has S w0 w R) : Below w0.heap.size w0 w := h.own.below
theorem Has.grow (h : Has S w0 w R) : w0.grownBy w none := h.own.grow
theorem Has.size (h : Has S w0 w R) : w0.heap.size ≤ w.heap.size := h.own.size
theorem Has.old (h : Has S w0 w R) {p : Addr} {v : Value} (hc : w0.cell? p = some v) : w.cell? p = some v := h.own.old hc
theorem Has.get (h : Has S w0 w R) (k : Nat) {c : Nat} {t : TypeId} {cs : List Value} (hk : R[k]? = some (c, t, cs)) : Blk t w c ⟨cs⟩ := h.own.get k hk
theorem Has.lt (h : Has S w0 w R) (k : Nat) {c : Nat} {t : TypeId} {cs : List Value} (hk : R[k]? = some (c, t, cs)) : c < w.heap.size := h.own.lt k hk
theorem Has.cell (h : Has S w0 w R) (k j : Nat) {c : Nat} {t : TypeId} {cs : List Value} {v : Value} (hk : R[k]? = some (c, t, cs)) (hv : cs[j]? = some v) : w.cell? ⟨c, j, none⟩ = some v := h.own.cell k j hk hv
theorem Has.free (h : Has S w0 w R) (k j : Nat) {c : Nat} {t : TypeId} {cs : List Value} (hk : R[k]? = some (c, t, cs)) : w.frozen? ⟨c, j, none⟩ = false := h.own.free k j hk
theorem Has.ne' (h : Has S w0 w R) (i k : Nat) {c d : Nat} {t u : TypeId} {cs ds : List Value} (hi : R[i]? = some (c, t, cs)) (hk : R[k]? = some (d, u, ds)) (hik : i ≠ k) : c ≠ d ∧ d ≠ c := h.own.ne' i k hi hk hik
/-- One shape behind another. -/
def Both (S S' : Blks → Prop) : Blks → Prop := fun X => ∃ A B, S A ∧ S' B ∧ X = A ++ B
theorem Has.left (h : Has (Both S S') w0 w R) : ∃ B, S' B ∧ Has S w0 w (B ++ R) := by
  obtain ⟨_, ⟨A, B, hA, hB, rfl⟩, o⟩ := h
  exact ⟨B, hB, A, hA, by simpa using o⟩
theorem Has.right (h : Has (Both S S') w0 w R) : ∃ A, S A ∧ Has S' w0 w (A ++ R) := by
  obtain ⟨_, ⟨A, B, hA, hB, rfl⟩, o⟩ := h
  exact ⟨A, hA, B, hB, Own.comm (by simpa using o)⟩
theorem Has.ofLeft {B : Blks} (hB : S' B) (h : Has S w0 w (B ++ R)) : Has (Both S S') w0 w R := by
  obtain ⟨A, hA, o⟩ := h
  exact ⟨A ++ B, ⟨A, B, hA, hB, rfl⟩, by simpa using o⟩
theorem Has.ofRight {A : Blks} (hA : S A) (h : Has S' w0 w (A ++ R)) : Has (Both S S') w0 w R := by
  obtain ⟨B, hB, o⟩ := h
  exact ⟨A ++ B, ⟨A, B, hA, hB, rfl⟩, by have := Own.comm o; simpa using this⟩
/-- Two of them: the other one in front. -/
theorem Has.turn (h : Has S w0 w (M ++ R)) (hM : S' M) : ∃ X, S X ∧ Has S' w0 w (X ++ R) := by
  obtain ⟨X, hX, o⟩ := h
  exact ⟨X, hX, M, hM, o.comm⟩
end
end Go.Proofs.Ytinmhefkmjlelaa.base

/- The document's own answer for package script: numbers' bytes, and a transaction that is got. -/
namespace Go.Proofs.Ytinmhefkmjlelaa.sc
open Go Go.RowKit Go.Proofs.Ytinmhefkmjlelaa.base Go.Proofs.Ytinmhefkmjlelaa.lg Go.Proofs.Ytinmhefkmjlelaa.md
set_option linter.unusedVariables false
set_option linter.unusedSimpArgs false
set_option maxRecDepth 100000

theorem signed_any (b : Int) (h : 0 ≤ b ∧ b ≤ 255) (w : World) : Calls Try.prog 22 #[.int .u8 b] w fun r w' => r = .returned (.int .i64 (sg b)) ∧ w' = w := by
  obtain ⟨h1, h2⟩ := h
  by_cases h3 : 127 < b
  · have H := Lib.hid (show sg b = b - 256 by unfold sg; rw [if_pos h3])
    go_enter Try.func22, Try.ntmps22
    go_wp2
    go_ret
    exact ⟨by rw [H.out]; go_num, rfl⟩
  · have H := Lib.hid (show sg b = b by unfold sg; rw [if_neg h3])
    have hd : decide (127 < b) = false := by simp; omega
    clear h3
    go_enter Try.func22, Try.ntmps22
    go_wp2
    go_ret
    exact ⟨by rw [H.out]; rfl, rfl⟩

theorem low_any (n : Int) (h : -128 ≤ n ∧ n ≤ 127) (w : World) : Calls Try.prog 36 #[.int .i64 n] w fun r w' => r = .returned (.int .u8 (low n)) ∧ w' = w := by
  obtain ⟨h1, h2⟩ := h
  by_cases h3 : n < 0
  · have H := Lib.hid (show low n = n + 256 by unfold low; rw [if_pos h3])
    go_enter Try.func36, Try.ntmps36
    go_wp2
    go_ret
    exact ⟨by rw [H.out]; go_num, rfl⟩
  · have H := Lib.hid (show low n = n by unfold low; rw [if_neg h3])
    have hd : decide (n < 0) = false := by simp; omega
    have hn0 : 0 ≤ n := by omega
    clear h3
    go_enter Try.func36, Try.ntmps36
    go_wp2
    go_ret
    exact ⟨by rw [H.out]; go_num, rfl⟩

/-- Where a transaction's operations end. -/
theorem rep_op_at {n : Int} {L : List Int} {i : Nat} : ∀ {m : Nat} {l : List Op3} {j : Nat}, rep (opP n) m L i = .ok (l, j) → j = i + 3 * m ∧ (i ≤ L.length → j ≤ L.length)
  | 0, l, j, h => by
    rw [rep] at h
    cases h
    exact ⟨rfl, id⟩
  | m + 1, l, j, h => by
    rw [rep] at h
    split at h
    · cases h
    · next l' j' h1 =>
      split at h
      · cases h
      · next x k h2 =>
        cases h
        obtain ⟨a, b⟩ := rep_op_at h1
        unfold opP at h2
        split at h2
        · cases h2
        · split at h2
          · cases h2
            exact ⟨by omega, fun _ => by omega⟩
          · cases h2
theorem rep_err {α : Type} {p : Part α} {L : List Int} {i k : Nat} {e : Nat × Int} (h : rep p k L i = .error e) : ∀ m, rep p (k + m) L i = .error e
  | 0 => h
  | m + 1 => by
    rw [← Nat.add_assoc, rep, rep_err h m]
theorem rep_err_le {α : Type} {p : Part α} {L : List Int} {i k m : Nat} {e : Nat × Int} (h : rep p k L i = .error e) (hk : k ≤ m) : rep p m L i = .error e := by
  have := rep_err h (m - k)
  rwa [show k + (m - k) = m by omega] at this
theorem rep_next {α : Type} {p : Part α} {L : List Int} {i m j k : Nat} {l : List α} {x : α} (h : rep p m L i = .ok (l, j)) (hx : p L j = .ok (x, k)) : rep p (m + 1) L i = .ok (l ++ [x], k) := by
  rw [rep, h]
  dsimp only
  rw [hx]
theorem rep_bad {α : Type} {p : Part α} {L : List Int} {i m j : Nat} {l : List α} {e : Nat × Int} (h : rep p m L i = .ok (l, j)) (hx : p L j = .error e) : rep p (m + 1) L i = .error e := by
  rw [rep, h]
  dsimp only
  rw [hx]

/-- The bytes of L lie there. -/
def IsB (w : World) (a : Option Addr) (L : List Int) : Prop := IsNums .u8 w a L.length (at0 L) ∧ Bytes L
theorem IsB.grown {w w' : World} {a : Option Addr} {L : List Int} (h : IsB w a L) (g : w.grownBy w' none) : IsB w' a L := ⟨h.1.grown g, h.2⟩

/-- An operation's cells. -/
def opc3 (o : Op3) : List Value := [.int .i64 o.k, .int .i64 o.o, .int .i64 o.a]
theorem opc3_len (o : Op3) : (opc3 o).length = 3 := rfl

set_option maxHeartbeats 1000000 in
theorem reftxn_any (a : Option Addr) (cap : Nat) (L : List Int) (i : Nat) (n : Int) (w : World) (hb : IsB w a L) (hL : L.length ≤ 100000) (hi : i ≤ L.length) :
    Calls Try.prog 23 #[.slice a L.length cap, .int .i64 i, .int .i64 n] w fun r w' => Hid (w.grownBy w' none) ∧ ((∃ (l : List Op3) (j : Nat) (oa : Option Addr) (oc : Nat), r = .returned (.tuple #[.slice oa l.length oc, .int .i64 j, .int .i64 0]) ∧ Hid (txP n L i = .ok (l, j)) ∧ Hid (w'.ownsRow w.heap.size 77 3 (.slice oa l.length oc) l.length (rows opc3 l))) ∨
      (∃ (pl : Nat) (er : Int), r = .returned (.tuple #[.slice none 0 0, .int .i64 pl, .int .i64 er]) ∧ Hid (txP n L i = .error (pl, er)))) := by
  have HB := Lib.hid hb
  clear hb
  by_cases h0 : L.length ≤ i
  · have h0i : (L.length : Int) ≤ (i : Int) := by omega
    have E := Lib.hid (show txP n L i = .error (L.length, 9) by unfold txP; rw [if_pos h0])
    go_enter Try.func23, Try.ntmps23
    go_wp2
    go_ret3
    exact ⟨gb_refl _ _, .inr ⟨_, _, rfl, E⟩⟩
  have hil : i < L.length := by omega
  have hli : (i : Int) < (L.length : Int) := by omega
  have h0d : decide ((L.length : Int) ≤ (i : Int)) = false := by simp; omega
  obtain ⟨b, off, rfl, hbl, c0⟩ := HB.out.1.at1 hil
  have hbyte := at0_byte HB.out.2 hil
  by_cases hr : at0 L i < 1 ∨ 8 < at0 L i
  · have E := Lib.hid (show txP n L i = .error (i, 3) by unfold txP; rw [if_neg h0, if_pos hr])
    clear h0
    generalize at0 L i = x at *
    rcases hr with hr | hr
    · go_enter Try.func23, Try.ntmps23
      go_wp2
      go_ret3
      exact ⟨gb_refl _ _, .inr ⟨_, _, rfl, E⟩⟩
    · have hx1 : decide (x < 1) = false := by simp; omega
      go_enter Try.func23, Try.ntmps23
      go_wp2
      go_ret3
      exact ⟨gb_refl _ _, .inr ⟨_, _, rfl, E⟩⟩
  have E := Lib.hid (show txP n L i = rep (opP n) (at0 L i).toNat L (i + 1) by unfold txP; rw [if_neg h0, if_neg hr])
  clear h0
  obtain ⟨m, hm⟩ : ∃ m : Nat, at0 L i = (m : Int) := ⟨(at0 L i).toNat, by omega⟩
  rw [hm] at E c0 hr
  rw [Int.toNat_natCast] at E
  have hm1 : decide ((m : Int) < 1) = false := by simp; omega
  have hm8 : decide ((8 : Int) < (m : Int)) = false := by simp; omega
  have hm6 : (m : Int) ≤ 8 := by omega
  have hL6 : (L.length : Int) ≤ 100000 := by omega
  clear hr hm hbyte
  clear hbl
  go_enter Try.func23, Try.ntmps23
  go_wp2_with fail
  generalize decide (L.length ≤ i) = q16
  clear h0d hm1 hm8 hli
  go_loopw [1, 10, 11] (fun av ov kv wr => ∃ (k : Nat) (l : List Op3) (j : Nat) (oa : Option Addr) (oc : Nat), k ≤ m ∧ kv = .int .i64 k ∧ av = .int .i64 j ∧ ov = .slice oa l.length oc ∧ Hid (rep (opP n) k L (i + 1) = .ok (l, j)) ∧ Hid (wr.ownsRow w.heap.size 77 3 (.slice oa l.length oc) l.length (rows opc3 l)) ∧ Hid (w.grownBy wr none)) (fun _ _ kv _ => (m - intOf kv).toNat)
  case atStart => exact ⟨0, [], i + 1, none, 0, by omega, rfl, by go_num, rfl, rfl, World.ownsRow_nil _ _ _ _, gb_refl _ _⟩
  case round =>
    clear c0
    obtain ⟨k, l, j, oa, oc, hk, rfl, rfl, rfl, HR, RO, G⟩ := hrel
    have hj := rep_op_at HR.out
    have HLL := Lib.hid (rep_len HR.out)
    have hjl : j ≤ L.length := hj.2 (by omega)
    have hj6 : (j : Int) ≤ 100000 := by omega
    have hl6 : (l.length : Int) ≤ 8 := by have := HLL.out; omega
    have HJ := Lib.hid hj.1
    clear hj
    by_cases hkm : k < m
    · have hkm' : (k : Int) < (m : Int) := by omega
      by_cases hs : L.length < j + 3
      · have hs' : decide ((L.length : Int) - (j : Int) < 3) = true := by simp; omega
        have EE := Lib.hid (show txP n L i = .error (L.length, 9) by rw [E.out]; exact rep_err_le (rep_bad HR.out (show opP n L j = .error (L.length, 9) by unfold opP; rw [if_pos hs])) (by omega))
        clear hs
        go_wp2
        go_ret3
        exact ⟨G, .inr ⟨_, _, rfl, EE⟩⟩
      · have hs' : decide ((L.length : Int) - (j : Int) < 3) = false := by simp; omega
        obtain ⟨_, _, e1, _, c0⟩ := (HB.out.grown G.out).1.at1 (show j < L.length by omega)
        cases e1
        obtain ⟨_, _, e1, _, c1⟩ := (HB.out.grown G.out).1.at1 (show j + 1 < L.length by omega)
        cases e1
        obtain ⟨_, _, e1, _, c2⟩ := (HB.out.grown G.out).1.at1 (show j + 2 < L.length by omega)
        cases e1
        have HOP := Lib.hid (show opP n L j = if Op3.ok n ⟨at0 L j, at0 L (j + 1), sg (at0 L (j + 2))⟩ = true then .ok (⟨at0 L j, at0 L (j + 1), sg (at0 L (j + 2))⟩, j + 3) else .error (j, 3) by unfold opP; rw [if_neg hs])
        obtain ⟨l00, l01⟩ := at0_byte HB.out.2 (show j < L.length by omega)
        obtain ⟨l10, l11⟩ := at0_byte HB.out.2 (show j + 1 < L.length by omega)
        have l2 := at0_byte HB.out.2 (show j + 2 < L.length by omega)
        have i0 : (j : Int) < (L.length : Int) := by omega
        have i1 : (j : Int) + 1 < (L.length : Int) := by omega
        have i2 : (j : Int) + 2 < (L.length : Int) := by omega
        generalize at0 L j = x0 at *
        generalize at0 L (j + 1) = x1 at *
        generalize at0 L (j + 2) = y2 at *
        have SG := Lib.hid (fun u => signed_any y2 l2 u)
        obtain ⟨x2, hx2⟩ : ∃ x2, x2 = sg y2 := ⟨_, rfl⟩
        rw [← hx2] at SG HOP
        clear hx2 l2 hs
        have k0 : IntKind.i64.wrap x0 = x0 := IntWalk.i64_in _ (by omega)
        have k1 : IntKind.i64.wrap x1 = x1 := IntWalk.i64_in _ (by omega)
        have k2 : IntKind.i64.wrap ((j : Int) + 1) = (j : Int) + 1 := IntWalk.i64_in _ (by omega)
        have k3 : (0 : Int) ≤ (j : Int) + 1 := by omega
        have k4 : ((j : Int) + 1).toNat = j + 1 := by omega
        have k5 : IntKind.i64.wrap ((j : Int) + 2) = (j : Int) + 2 := IntWalk.i64_in _ (by omega)
        have k6 : (0 : Int) ≤ (j : Int) + 2 := by omega
        have k7 : ((j : Int) + 2).toNat = j + 2 := by omega
        go_upto_region 13 with fail
        go_region_held3 (fun w' => w'.cell? ⟨b, off + j, none⟩ = some (.int .u8 x0) ∧ w'.cell? ⟨b, off + (j + 1), none⟩ = some (.int .u8 x1) ∧ w'.cell? ⟨b, off + (j + 2), none⟩ = some (.int .u8 y2)) (go_keep) (first
          | (go_at_call 22; refine (SG.out _).mono ?_; rintro r u5 ⟨rfl, rfl⟩))
        all_goals
          have B1 := Lib.hid (Blk.made wr 77 #[.int .i64 x0, .int .i64 x1, .int .i64 x2])
          have G1 := Lib.hid (gb_drew (gb_alloc G.out (.cells #[.int .i64 x0, .int .i64 x1, .int .i64 x2] 77)))
          have O1 := Lib.hid (ownsRow_keep (w' := (wr.alloc (.cells #[.int .i64 x0, .int .i64 x1, .int .i64 x2] 77)).drew) RO.out (fun b e => Below.heap_alloc _ _ b (RO.out.lt b e).2))
          clear RO G k0 k1 k2 k3 k4 k5 k6 k7 c0 c1 c2
          go_wp2_with fail
          cases hB : okB x0 x1 x2 n with
          | false =>
            have HO := Lib.hid (fun u => (hB ▸ refok_any x0 x1 x2 n u))
            have EE := Lib.hid (show txP n L i = .error (j, 3) by rw [E.out]; exact rep_err_le (rep_bad HR.out (show opP n L j = .error (j, 3) by rw [HOP.out, if_neg (by unfold Op3.ok; rw [hB]; simp)])) (by omega))
            clear hB
            refine (HO.out _).mono ?_
            rintro r u ⟨rfl, g⟩
            go_wp2
            go_ret3
            exact ⟨gb_trans G1.out g.out, .inr ⟨_, _, rfl, EE⟩⟩
          | true =>
            have HO := Lib.hid (fun u => (hB ▸ refok_any x0 x1 x2 n u))
            have HN := Lib.hid (rep_next HR.out (show opP n L j = .ok (⟨x0, x1, x2⟩, j + 3) by rw [HOP.out, if_pos (by unfold Op3.ok; exact hB)]))
            clear hB
            refine (HO.out _).mono ?_
            rintro r u2 ⟨rfl, g2⟩
            have O2 := Lib.hid (ownsRow_keep O1.out (fun b e => g2.out.block b (O1.out.lt b e).2 (by simp)))
            have G2 := Lib.hid (gb_trans G1.out g2.out)
            have hsz := Lib.hid (show w.heap.size ≤ u2.heap.size from G2.out.size)
            have B2 := Lib.hid (B1.out.drew.grown g2.out (by simp))
            clear O1 G1 g2 B1
            have p0 : u2.cell? ⟨wr.heap.size, 0, none⟩ = some (.int .i64 x0) := B2.out.cell 0
            have p1 : u2.cell? ⟨wr.heap.size, 1, none⟩ = some (.int .i64 x1) := B2.out.cell 1
            have p2 : u2.cell? ⟨wr.heap.size, 2, none⟩ = some (.int .i64 x2) := B2.out.cell 2
            go_wp2_with (first | (at_builtin; go_loud (refine appendOp _ rfl (.tmp 74) (.tmp 76) rfl w.heap.size _ l.length (rows opc3 l) rfl (ownsRow_keep O2.out (fun b e => Below.heap_alloc _ _ b (O2.out.lt b e).2)) (some ⟨u2.heap.size, 0, none⟩) 1 1 [.int .i64 x0, .int .i64 x1, .int .i64 x2] rfl rfl (new_src _ _ _ _ rfl) (by intro u hu; simp at hu; rcases hu with rfl | rfl | rfl <;> rfl) (by omega) (by have := hsz.out; simp; omega) ?_); intro b2 c2' w3 ho0 hg0 hv; have HO3 := Lib.hid ho0; have HG3 := Lib.hid hg0; clear hv ho0 hg0) | go_in)
            have ho := HO3.out
            have hg := HG3.out
            have O3 : Hid (w3.ownsRow w.heap.size 77 3 (.slice b2 (l.length + 1) c2') (l.length + 1) (rows opc3 (l ++ [⟨x0, x1, x2⟩]))) := by rw [rows_snoc]; exact ho
            have G3 := Lib.hid (gb_overO (gb_alloc G2.out _) hg (fun i hi => (O2.out.lt i hi).1))
            clear ho hg
            go_roundw
            case rel => exact ⟨k + 1, l ++ [⟨x0, x1, x2⟩], j + 3, b2, c2', by omega, by go_num, by go_num, by rw [List.length_append]; rfl, HN, by rw [List.length_append]; exact O3, G3⟩
            case measure => simp [intOf]; omega
    · obtain rfl : k = m := by omega
      have EE := Lib.hid (show txP n L i = .ok (l, j) by rw [E.out]; exact HR.out)
      go_wp2
      go_ret3
      exact ⟨G, .inl ⟨l, j, oa, oc, rfl, EE, RO⟩⟩
end Go.Proofs.Ytinmhefkmjlelaa.sc

/- A script of one's own that grows: where it lies. -/
namespace Go.Proofs.Ytinmhefkmjlelaa.sc
open Go Go.RowKit Go.Proofs.Ytinmhefkmjlelaa.base Go.Proofs.Ytinmhefkmjlelaa.lg Go.Proofs.Ytinmhefkmjlelaa.md
set_option linter.unusedVariables false
set_option linter.unusedSimpArgs false
set_option maxRecDepth 100000

/-- All blocks of such types stand. -/
def KeepT (P : TypeId → Prop) (w w' : World) : Prop := w.heap.size ≤ w'.heap.size ∧ ∀ (k : Nat) (cs : Array Value) (t : TypeId), w.heap[k]? = some (.cells cs t (0, 0)) → P t → w'.heap[k]? = w.heap[k]?

theorem KeepT.grown {P : TypeId → Prop} {w w' : World} (g : w.grownBy w' none) : KeepT P w w' := ⟨g.size, fun k cs t h _ => g.block k (lt_of_block h) (by simp)⟩

theorem KeepT.trans {P : TypeId → Prop} {a b c : World} (h : KeepT P a b) (k : KeepT P b c) : KeepT P a c := ⟨Nat.le_trans h.1 k.1, fun i cs t hi hp => by
  have h1 := h.2 i cs t hi hp
  exact (k.2 i cs t (h1.trans hi) hp).trans h1⟩

theorem KeepT.row {w w' : World} {base : Nat} {e : TypeId} {sz n : Nat} {v : Value} {xs : List Value} (h : w.ownsRow base e sz v n xs) (g : w.grownBy w' v.ownBlock) : KeepT (fun t => t ≠ e) w w' := ⟨g.size, fun k cs t hk hp => by
  refine g.block k (lt_of_block hk) fun e1 => ?_
  obtain ⟨ds, hd⟩ := ownsRow_type h e1.symm
  rw [hk] at hd
  injection hd with hd
  injection hd with _ h3
  exact hp h3⟩

theorem KeepT.set {w : World} {b : Nat} {t : TypeId} {cs : Array Value} (h : Blk t w b cs) (j : Nat) (u : Value) : KeepT (fun x => x ≠ t) w (w.setCell ⟨b, j, none⟩ u) := ⟨by simp [World.setCell], fun k ds x hk hp => Below.heap_setCell _ _ _ _ (fun e => by
  subst e
  unfold Blk at h
  rw [hk] at h
  injection h with h
  injection h with _ h3
  exact hp h3)⟩

theorem KeepT.own {P : TypeId → Prop} {w w' : World} {base : Nat} {e : TypeId} {sz n : Nat} {v : Value} {xs : List Value} (h : KeepT P w w') (hr : w.ownsRow base e sz v n xs) (hp : P e) : w'.ownsRow base e sz v n xs := ownsRow_keep hr fun k hk => by
  obtain ⟨cs, hc⟩ := ownsRow_type hr hk
  exact h.2 k cs e hc hp

/-- A transaction, all of a thread, all of all threads, in rows of one's own. -/
def OwnTx (base : Nat) (w : World) (l : List Op3) (v : Value) : Prop := w.ownsRow base 77 3 v l.length (rows opc3 l)

def OwnTh (base : Nat) (w : World) (l : List (List Op3)) (v : Value) : Prop := ∃ vs : List Value, w.ownsRow base 60 1 v l.length vs ∧ vs.length = l.length ∧ ∀ (i : Nat) (x : List Op3) (u : Value), l[i]? = some x → vs[i]? = some u → OwnTx base w x u

def OwnAll (base : Nat) (w : World) (l : List (List (List Op3))) (v : Value) : Prop := ∃ vs : List Value, w.ownsRow base 59 1 v l.length vs ∧ vs.length = l.length ∧ ∀ (i : Nat) (x : List (List Op3)) (u : Value), l[i]? = some x → vs[i]? = some u → OwnTh base w x u

theorem OwnTx.keep {P : TypeId → Prop} {base : Nat} {w w' : World} {l : List Op3} {v : Value} (h : OwnTx base w l v) (k : KeepT P w w') (hp : P 77) : OwnTx base w' l v := k.own h hp

theorem OwnTh.keep {P : TypeId → Prop} {base : Nat} {w w' : World} {l : List (List Op3)} {v : Value} (h : OwnTh base w l v) (k : KeepT P w w') (h1 : P 77) (h2 : P 60) : OwnTh base w' l v := by
  obtain ⟨vs, a, b, c⟩ := h
  exact ⟨vs, k.own a h2, b, fun i x u hx hu => (c i x u hx hu).keep k h1⟩

theorem OwnAll.keep {P : TypeId → Prop} {base : Nat} {w w' : World} {l : List (List (List Op3))} {v : Value} (h : OwnAll base w l v) (k : KeepT P w w') (h1 : P 77) (h2 : P 60) (h3 : P 59) : OwnAll base w' l v := by
  obtain ⟨vs, a, b, c⟩ := h
  exact ⟨vs, k.own a h3, b, fun i x u hx hu => (c i x u hx hu).keep k h1 h2⟩

theorem OwnTh.nil (base : Nat) (w : World) : OwnTh base w [] (.slice none 0 0) := ⟨[], World.ownsRow_nil _ _ _ _, rfl, fun i x u hx => by simp at hx⟩

theorem OwnAll.nil (base : Nat) (w : World) : OwnAll base w [] (.slice none 0 0) := ⟨[], World.ownsRow_nil _ _ _ _, rfl, fun i x u hx => by simp at hx⟩

/-- One more. -/
theorem OwnTh.snoc {base : Nat} {w : World} {l : List (List Op3)} {vs : List Value} {v u : Value} {x : List Op3} (hr : w.ownsRow base 60 1 v (l.length + 1) (vs ++ [u])) (hl : vs.length = l.length) (he : ∀ (i : Nat) (x : List Op3) (u : Value), l[i]? = some x → vs[i]? = some u → OwnTx base w x u) (hx : OwnTx base w x u) : OwnTh base w (l ++ [x]) v := by
  refine ⟨vs ++ [u], by rw [List.length_append]; exact hr, by simp [hl], fun i y t hy ht => ?_⟩
  by_cases hi : i < l.length
  · rw [List.getElem?_append_left hi] at hy
    rw [List.getElem?_append_left (by omega)] at ht
    exact he i y t hy ht
  · have hil : i = l.length := by
      have := (List.getElem?_eq_some_iff.1 hy).1
      simp at this
      omega
    subst hil
    rw [List.getElem?_append_right (Nat.le_refl _), Nat.sub_self] at hy
    rw [List.getElem?_append_right (by omega), hl, Nat.sub_self] at ht
    cases hy
    cases ht
    exact hx

theorem OwnAll.snoc {base : Nat} {w : World} {l : List (List (List Op3))} {vs : List Value} {v u : Value} {x : List (List Op3)} (hr : w.ownsRow base 59 1 v (l.length + 1) (vs ++ [u])) (hl : vs.length = l.length) (he : ∀ (i : Nat) (x : List (List Op3)) (u : Value), l[i]? = some x → vs[i]? = some u → OwnTh base w x u) (hx : OwnTh base w x u) : OwnAll base w (l ++ [x]) v := by
  refine ⟨vs ++ [u], by rw [List.length_append]; exact hr, by simp [hl], fun i y t hy ht => ?_⟩
  by_cases hi : i < l.length
  · rw [List.getElem?_append_left hi] at hy
    rw [List.getElem?_append_left (by omega)] at ht
    exact he i y t hy ht
  · have hil : i = l.length := by
      have := (List.getElem?_eq_some_iff.1 hy).1
      simp at this
      omega
    subst hil
    rw [List.getElem?_append_right (Nat.le_refl _), Nat.sub_self] at hy
    rw [List.getElem?_append_right (by omega), hl, Nat.sub_self] at ht
    cases hy
    cases ht
    exact hx

/-- Numbers, as cells. -/
def numsC (k : IntKind) (l : List Int) : List Value := l.map fun x => .int k x

theorem numsC_snoc (k : IntKind) (l : List Int) (x : Int) : numsC k (l ++ [x]) = numsC k l ++ [.int k x] := by simp [numsC]

/-- A zero script's cells. -/
def zsC : List Value := [.int .i64 0, .int .i64 0, .int .i64 0, .int .i64 0, .int .i64 0, .int .i64 0, .slice none 0 0, .slice none 0 0, .slice none 0 0, .slice none 0 0]

/-- What stands while a script is got: its block, the config's, the result's, and its rows. -/
structure GS (w0 w : World) (rb cb sb : Nat) (c : Cfg) (f d : List Int) (A : List (List (List Op3))) (p : List Int) (fv dv av pv : Value) : Prop where
  own : Own w0 w [(sb, 34, cfC c ++ [fv, dv, av, pv]), (cb, 25, cfC c), (rb, 34, zsC)]
  rf : w.ownsRow w0.heap.size 2 1 fv f.length (numsC .i64 f)
  rd : w.ownsRow w0.heap.size 5 1 dv d.length (numsC .u8 d)
  ra : OwnAll w0.heap.size w A av
  rp : w.ownsRow w0.heap.size 3 1 pv p.length (numsC .i64 p)

section
variable {w0 w w1 : World} {rb cb sb : Nat} {c : Cfg} {f d p : List Int} {A : List (List (List Op3))} {fv dv av pv : Value}
theorem GS.grown (h : GS w0 w rb cb sb c f d A p fv dv av pv) (g : w.grownBy w1 none) : GS w0 w1 rb cb sb c f d A p fv dv av pv :=
  have k : KeepT (fun _ => True) w w1 := KeepT.grown g
  ⟨h.own.grown g, k.own h.rf trivial, k.own h.rd trivial, h.ra.keep k trivial trivial trivial, k.own h.rp trivial⟩

/-- A row of one's own of another type was written. -/
theorem own_row {L : List (Nat × TypeId × List Value)} {e : TypeId} {sz n : Nat} {v : Value} {xs : List Value} (h : Own w0 w L) (hL : ∀ x ∈ L, x.2.1 ≠ e) (hr : w.ownsRow w0.heap.size e sz v n xs) (g : w.grownBy w1 v.ownBlock) : Own w0 w1 L := by
  refine ⟨gb_overO h.grow g fun i hi => (hr.lt i hi).1, fun x hx => ⟨(h.blk x hx).1, ?_⟩, h.down⟩
  have hb := (h.blk x hx).2
  exact hb.keep ((KeepT.row hr g).2 _ _ _ hb (hL x hx))

theorem GS.put_first {u : World} {x : Int} {v' : Value} (h : GS w0 w rb cb sb c f d A p fv dv av pv) (g0 : w.grownBy u none) (hr : w1.ownsRow w0.heap.size 2 1 v' (f.length + 1) (numsC .i64 f ++ [.int .i64 x])) (g : u.grownBy w1 fv.ownBlock) : GS w0 (w1.setCell ⟨sb, 6, none⟩ v') rb cb sb c (f ++ [x]) d A p v' dv av pv := by
  have H := h.grown g0
  have O1 := own_row H.own (e := 2) (by intro y hy; simp at hy; rcases hy with rfl | rfl | rfl <;> simp) H.rf g
  have K1 := KeepT.row H.rf g
  have K2 := KeepT.set (O1.get 0 rfl) 6 v'
  have K : KeepT (fun t => t ≠ 2 ∧ t ≠ 34) u (w1.setCell ⟨sb, 6, none⟩ v') := ⟨Nat.le_trans K1.1 K2.1, fun i cs t hi hp => by
    have h1 := K1.2 i cs t hi hp.1
    exact (K2.2 i cs t (h1.trans hi) hp.2).trans h1⟩
  exact ⟨O1.set 0 6 v' rfl, (K2.own (by rw [List.length_append, numsC_snoc]; exact hr) (by decide)), (K.own H.rd ⟨by decide, by decide⟩), H.ra.keep K ⟨by decide, by decide⟩ ⟨by decide, by decide⟩ ⟨by decide, by decide⟩, (K.own H.rp ⟨by decide, by decide⟩)⟩

theorem GS.put_draws {u : World} {x : Int} {v' : Value} (h : GS w0 w rb cb sb c f d A p fv dv av pv) (g0 : w.grownBy u none) (hr : w1.ownsRow w0.heap.size 5 1 v' (d.length + 1) (numsC .u8 d ++ [.int .u8 x])) (g : u.grownBy w1 dv.ownBlock) : GS w0 (w1.setCell ⟨sb, 7, none⟩ v') rb cb sb c f (d ++ [x]) A p fv v' av pv := by
  have H := h.grown g0
  have O1 := own_row H.own (e := 5) (by intro y hy; simp at hy; rcases hy with rfl | rfl | rfl <;> simp) H.rd g
  have K1 := KeepT.row H.rd g
  have K2 := KeepT.set (O1.get 0 rfl) 7 v'
  have K : KeepT (fun t => t ≠ 5 ∧ t ≠ 34) u (w1.setCell ⟨sb, 7, none⟩ v') := ⟨Nat.le_trans K1.1 K2.1, fun i cs t hi hp => by
    have h1 := K1.2 i cs t hi hp.1
    exact (K2.2 i cs t (h1.trans hi) hp.2).trans h1⟩
  exact ⟨O1.set 0 7 v' rfl, (K.own H.rf ⟨by decide, by decide⟩), (K2.own (by rw [List.length_append, numsC_snoc]; exact hr) (by decide)), H.ra.keep K ⟨by decide, by decide⟩ ⟨by decide, by decide⟩ ⟨by decide, by decide⟩, (K.own H.rp ⟨by decide, by decide⟩)⟩

theorem GS.put_picks {u : World} {x : Int} {v' : Value} (h : GS w0 w rb cb sb c f d A p fv dv av pv) (g0 : w.grownBy u none) (hr : w1.ownsRow w0.heap.size 3 1 v' (p.length + 1) (numsC .i64 p ++ [.int .i64 x])) (g : u.grownBy w1 pv.ownBlock) : GS w0 (w1.setCell ⟨sb, 9, none⟩ v') rb cb sb c f d A (p ++ [x]) fv dv av v' := by
  have H := h.grown g0
  have O1 := own_row H.own (e := 3) (by intro y hy; simp at hy; rcases hy with rfl | rfl | rfl <;> simp) H.rp g
  have K1 := KeepT.row H.rp g
  have K2 := KeepT.set (O1.get 0 rfl) 9 v'
  have K : KeepT (fun t => t ≠ 3 ∧ t ≠ 34) u (w1.setCell ⟨sb, 9, none⟩ v') := ⟨Nat.le_trans K1.1 K2.1, fun i cs t hi hp => by
    have h1 := K1.2 i cs t hi hp.1
    exact (K2.2 i cs t (h1.trans hi) hp.2).trans h1⟩
  exact ⟨O1.set 0 9 v' rfl, (K.own H.rf ⟨by decide, by decide⟩), (K.own H.rd ⟨by decide, by decide⟩), H.ra.keep K ⟨by decide, by decide⟩ ⟨by decide, by decide⟩ ⟨by decide, by decide⟩, (K2.own (by rw [List.length_append, numsC_snoc]; exact hr) (by decide))⟩

theorem GS.put_all {u : World} {x : List (List Op3)} {v' t : Value} {vs : List Value} (h : GS w0 w rb cb sb c f d A p fv dv av pv) (g0 : w.grownBy u none) (hva : w.ownsRow w0.heap.size 59 1 av A.length vs) (hvl : vs.length = A.length) (hve : ∀ (i : Nat) (x : List (List Op3)) (u : Value), A[i]? = some x → vs[i]? = some u → OwnTh w0.heap.size w x u) (hx : OwnTh w0.heap.size u x t) (hr : w1.ownsRow w0.heap.size 59 1 v' (A.length + 1) (vs ++ [t])) (g : u.grownBy w1 av.ownBlock) : GS w0 (w1.setCell ⟨sb, 8, none⟩ v') rb cb sb c f d (A ++ [x]) p fv dv v' pv := by
  have H := h.grown g0
  have K0 : KeepT (fun _ => True) w u := KeepT.grown g0
  have hva' := K0.own hva trivial
  have O1 := own_row H.own (e := 59) (by intro y hy; simp at hy; rcases hy with rfl | rfl | rfl <;> simp) hva' g
  have K1 := KeepT.row hva' g
  have K2 := KeepT.set (O1.get 0 rfl) 8 v'
  have K : KeepT (fun t => t ≠ 59 ∧ t ≠ 34) u (w1.setCell ⟨sb, 8, none⟩ v') := ⟨Nat.le_trans K1.1 K2.1, fun i cs t hi hp => by
    have h1 := K1.2 i cs t hi hp.1
    exact (K2.2 i cs t (h1.trans hi) hp.2).trans h1⟩
  exact ⟨O1.set 0 8 v' rfl, K.own H.rf ⟨by decide, by decide⟩, K.own H.rd ⟨by decide, by decide⟩, OwnAll.snoc (K2.own hr (by decide)) hvl (fun i y z hy hz => ((hve i y z hy hz).keep K0 trivial trivial).keep K ⟨by decide, by decide⟩ ⟨by decide, by decide⟩) (hx.keep K ⟨by decide, by decide⟩ ⟨by decide, by decide⟩), K.own H.rp ⟨by decide, by decide⟩⟩

theorem owns_sl {w : World} {base : Nat} {e : TypeId} {sz : Nat} {v : Value} {n : Nat} {xs : List Value} (h : w.ownsRow base e sz v n xs) : ∃ a c, v = .slice a n c := by
  rcases h.2 with ⟨rfl, rfl⟩ | ⟨g, cap, cur, rfl, _⟩
  · exact ⟨none, 0, rfl⟩
  · exact ⟨_, cap, rfl⟩

/-- Rows of one's own from a later world on. -/
theorem owns_lower {base base2 : Nat} {e : TypeId} {sz n : Nat} {v : Value} {xs : List Value} (h : w.ownsRow base2 e sz v n xs) (hb : base ≤ base2) : w.ownsRow base e sz v n xs := by
  refine ⟨h.1, h.2.imp id ?_⟩
  rintro ⟨g, cap, cur, e1, hg, rest⟩
  exact ⟨g, cap, cur, e1, Nat.le_trans hb hg, rest⟩

theorem OwnTh.lower {base base2 : Nat} {l : List (List Op3)} {v : Value} (h : OwnTh base2 w l v) (hb : base ≤ base2) : OwnTh base w l v := by
  obtain ⟨vs, a, b, c⟩ := h
  exact ⟨vs, owns_lower a hb, b, fun i x u hx hu => owns_lower (c i x u hx hu) hb⟩

theorem OwnTh.slice {base : Nat} {l : List (List Op3)} {v : Value} (h : OwnTh base w l v) : ∃ a c, v = .slice a l.length c := by
  obtain ⟨vs, a, _⟩ := h
  exact owns_sl a

end
end Go.Proofs.Ytinmhefkmjlelaa.sc

/- A script that lies in memory, to be read. -/
namespace Go.Proofs.Ytinmhefkmjlelaa.sc
open Go Go.RowKit Go.Proofs.Ytinmhefkmjlelaa.base Go.Proofs.Ytinmhefkmjlelaa.lg Go.Proofs.Ytinmhefkmjlelaa.md
set_option linter.unusedVariables false
set_option linter.unusedSimpArgs false
set_option maxRecDepth 100000

/-- A transaction's numbers, by place. -/
def opZ (l : List Op3) (i j : Nat) : Int := if j = 0 then (l.getD i default).k else if j = 1 then (l.getD i default).o else (l.getD i default).a

theorem getD_at {α : Type} [Inhabited α] {l : List α} {i : Nat} {x : α} (h : l[i]? = some x) : l.getD i default = x := by
  rw [List.getD_eq_getElem?_getD, h]
  rfl

theorem opZ_at {l : List Op3} {i : Nat} {x : Op3} (h : l[i]? = some x) : opZ l i 0 = x.k ∧ opZ l i 1 = x.o ∧ opZ l i 2 = x.a := by
  unfold opZ
  rw [getD_at h]
  exact ⟨rfl, rfl, rfl⟩

theorem okN_opZ (l : List Op3) (n : Int) : okN (opZ l) n l.length = l.all (Op3.ok n) := by
  cases h : l.all (Op3.ok n) with
  | true =>
    rw [List.all_eq_true] at h
    exact okN_of fun i hi => by
      have := h _ (List.getElem_mem hi)
      obtain ⟨e1, e2, e3⟩ := opZ_at (List.getElem?_eq_getElem hi)
      rw [e1, e2, e3]
      exact this
  | false =>
    obtain ⟨x, hx, hn⟩ := List.all_eq_false.1 h
    obtain ⟨i, hi, rfl⟩ := List.getElem_of_mem hx
    refine okN_false hi ?_
    obtain ⟨e1, e2, e3⟩ := opZ_at (List.getElem?_eq_getElem hi)
    rw [e1, e2, e3]
    simpa [Op3.ok] using hn

theorem rightB_opZ (l : List Op3) (n : Int) : rightB (opZ l) l.length n = txOk n l := by
  unfold rightB txOk
  rw [okN_opZ]

theorem ops_opZ (l : List Op3) : ops (opZ l) l.length = rows opc3 l := by
  refine rows_ext (f := opc3) (k := 3) opc3_len (by decide) l _ (ops_length _ _) fun j i x hj hi => ?_
  have hjl : j < l.length := (List.getElem?_eq_some_iff.1 hj).1
  rw [ops_get _ _ _ _ hjl hi]
  obtain ⟨e1, e2, e3⟩ := opZ_at hj
  rcases (by omega : i = 0 ∨ i = 1 ∨ i = 2) with rfl | rfl | rfl
  · rw [e1]; rfl
  · rw [e2]; rfl
  · rw [e3]; rfl

/-- Bytes of a number of two's complement. -/
theorem mod_low {a : Int} (h : -128 ≤ a ∧ a ≤ 127) : a % 256 = low a := by
  unfold low
  split <;> omega

theorem okB_small {k o a n : Int} (h : okB k o a n = true) (hn : n ≤ 256) : (0 ≤ k ∧ k ≤ 255) ∧ (0 ≤ o ∧ o ≤ 255) ∧ -128 ≤ a ∧ a ≤ 127 := by
  unfold okB at h
  split at h <;> simp at h <;> omega

theorem u8s_opZ (l : List Op3) (n : Int) (hn : n ≤ 256) (h : l.all (Op3.ok n) = true) : u8s (pb (opZ l)) (l.length * 3) = numsC .u8 (l.flatMap opB) := by
  have key : numsC .u8 (l.flatMap opB) = rows (fun o => [.int .u8 o.k, .int .u8 o.o, .int .u8 (low o.a)]) l := by
    unfold numsC rows
    rw [List.map_flatMap]
    rfl
  rw [key]
  rw [List.all_eq_true] at h
  refine rows_ext (k := 3) (fun _ => rfl) (by decide) l _ (u8s_length _ _) fun j i x hj hi => ?_
  have hjl : j < l.length := (List.getElem?_eq_some_iff.1 hj).1
  obtain ⟨e1, e2, e3⟩ := opZ_at hj
  have hok := h x (List.mem_of_getElem? hj)
  unfold Op3.ok at hok
  obtain ⟨⟨k1, k2⟩, ⟨o1, o2⟩, ha⟩ := okB_small hok hn
  have hlt : j * 3 + i < l.length * 3 := by omega
  unfold u8s
  rw [List.getElem?_map, List.getElem?_range hlt, Option.map_some]
  rcases (by omega : i = 0 ∨ i = 1 ∨ i = 2) with rfl | rfl | rfl
  · rw [Nat.add_zero, pb0, e1, show x.k % 256 = x.k by omega]
    rfl
  · rw [pb1, e2, show x.o % 256 = x.o by omega]
    rfl
  · rw [pb2, e3, mod_low ha]
    rfl

/-- Numbers, transactions, that lie there. -/
def NumsAt (k : IntKind) (w : World) (l : List Int) (v : Value) : Prop := ∃ a c, v = .slice a l.length c ∧ IsNums k w a l.length (at0 l)

def OpsAt (w : World) (l : List Op3) (v : Value) : Prop := ∃ a c, v = .slice a l.length c ∧ IsOps w a l.length (opZ l)

def TxsAt (w : World) (l : List (List Op3)) (v : Value) : Prop := ∃ a c, v = .slice a l.length c ∧ Lies w (OpsAt w) a l

def AllAt (w : World) (l : List (List (List Op3))) (v : Value) : Prop := ∃ a c, v = .slice a l.length c ∧ Lies w (TxsAt w) a l

/-- A script that lies there. -/
structure ScrAt (w : World) (s : Scr) (fv dv av pv : Value) : Prop where
  f : NumsAt .i64 w s.first fv
  d : NumsAt .u8 w s.draws dv
  a : AllAt w s.all av
  p : NumsAt .i64 w s.picks pv

section
variable {w w' : World} {k : IntKind}
theorem NumsAt.grown {l : List Int} {v : Value} (h : NumsAt k w l v) (g : w.grownBy w' none) : NumsAt k w' l v := by
  obtain ⟨a, c, h1, h2⟩ := h
  exact ⟨a, c, h1, h2.grown g⟩

theorem OpsAt.grown {l : List Op3} {v : Value} (h : OpsAt w l v) (g : w.grownBy w' none) : OpsAt w' l v := by
  obtain ⟨a, c, h1, h2⟩ := h
  exact ⟨a, c, h1, h2.grown g⟩

theorem TxsAt.grown {l : List (List Op3)} {v : Value} (h : TxsAt w l v) (g : w.grownBy w' none) : TxsAt w' l v := by
  obtain ⟨a, c, h1, h2⟩ := h
  exact ⟨a, c, h1, h2.keep (fun _ _ h => h.grown g) g⟩

theorem AllAt.grown {l : List (List (List Op3))} {v : Value} (h : AllAt w l v) (g : w.grownBy w' none) : AllAt w' l v := by
  obtain ⟨a, c, h1, h2⟩ := h
  exact ⟨a, c, h1, h2.keep (fun _ _ h => h.grown g) g⟩

theorem ScrAt.grown {s : Scr} {fv dv av pv : Value} (h : ScrAt w s fv dv av pv) (g : w.grownBy w' none) : ScrAt w' s fv dv av pv := ⟨h.f.grown g, h.d.grown g, h.a.grown g, h.p.grown g⟩

theorem ScrAt.nopicks {s : Scr} {fv dv av pv : Value} (h : ScrAt w s fv dv av pv) (c : Nat) : ScrAt w { s with picks := [] } fv dv av (.slice none 0 c) := ⟨h.f, h.d, h.a, none, c, rfl, .inl rfl⟩

theorem numsC_eq (k : IntKind) (l : List Int) : numsC k l = (List.range l.length).map fun i => Value.int k (at0 l i) := by
  unfold numsC
  apply List.ext_getElem?
  intro i
  by_cases hi : i < l.length
  · simp [hi, at0, List.getD_eq_getElem?_getD]
  · rw [List.getElem?_eq_none (by simpa using hi), List.getElem?_eq_none (by simpa using hi)]

theorem NumsAt.of_own {base : Nat} {e : TypeId} {l : List Int} {v : Value} (h : w.ownsRow base e 1 v l.length (numsC k l)) : NumsAt k w l v := by
  obtain ⟨a, c, rfl⟩ := owns_sl h
  rw [numsC_eq] at h
  exact ⟨a, c, rfl, IsNums.of_own h⟩

theorem OpsAt.of_own {base : Nat} {l : List Op3} {v : Value} (h : OwnTx base w l v) : OpsAt w l v := by
  unfold OwnTx at h
  obtain ⟨a, c, rfl⟩ := owns_sl h
  rw [← ops_opZ] at h
  exact ⟨a, c, rfl, IsOps.of_own h⟩

theorem Lies.of_own {α : Type} {p : α → Value → Prop} {base : Nat} {e : TypeId} {l : List α} {vs : List Value} {a : Option Addr} {c : Nat} (h : w.ownsRow base e 1 (.slice a l.length c) l.length vs) (hl : vs.length = l.length) (hp : ∀ (i : Nat) (x : α) (u : Value), l[i]? = some x → vs[i]? = some u → p x u) : Lies w p a l := by
  rcases h.2 with ⟨e1, h0⟩ | ⟨g, cap2, cur, e1, _⟩
  · exact .inl (List.eq_nil_of_length_eq_zero h0)
  · injection e1 with e2 e3 e4
    subst e2
    by_cases hn : l.length = 0
    · exact .inl (List.eq_nil_of_length_eq_zero hn)
    have hlt : g < w.heap.size := (h.lt g rfl).2
    refine .inr ⟨g, 0, rfl, hlt, fun i y hy => ?_⟩
    have hi : i < l.length := (List.getElem?_eq_some_iff.1 hy).1
    have h1 := h.cellAt i (by omega)
    rw [List.getElem?_eq_getElem (by omega)] at h1
    exact ⟨vs[i], by rw [Nat.zero_add]; exact h1, hp i y _ hy (List.getElem?_eq_getElem (by omega))⟩

theorem TxsAt.of_own {base : Nat} {l : List (List Op3)} {v : Value} (h : OwnTh base w l v) : TxsAt w l v := by
  obtain ⟨vs, a, b, c⟩ := h
  obtain ⟨d, cap, rfl⟩ := owns_sl a
  exact ⟨d, cap, rfl, Lies.of_own a b fun i x u hx hu => OpsAt.of_own (c i x u hx hu)⟩

theorem AllAt.of_own {base : Nat} {l : List (List (List Op3))} {v : Value} (h : OwnAll base w l v) : AllAt w l v := by
  obtain ⟨vs, a, b, c⟩ := h
  obtain ⟨d, cap, rfl⟩ := owns_sl a
  exact ⟨d, cap, rfl, Lies.of_own a b fun i x u hx hu => TxsAt.of_own (c i x u hx hu)⟩

/-- A script in rows of one's own. -/
structure OwnScr (base : Nat) (w : World) (s : Scr) (fv dv av pv : Value) : Prop where
  f : w.ownsRow base 2 1 fv s.first.length (numsC .i64 s.first)
  d : w.ownsRow base 5 1 dv s.draws.length (numsC .u8 s.draws)
  a : OwnAll base w s.all av
  p : w.ownsRow base 3 1 pv s.picks.length (numsC .i64 s.picks)

/-- None of a script's rows has such a type. -/
def NotRow (t : TypeId) : Prop := t ≠ 2 ∧ t ≠ 5 ∧ t ≠ 3 ∧ t ≠ 77 ∧ t ≠ 60 ∧ t ≠ 59

theorem OwnScr.keep {base : Nat} {s : Scr} {fv dv av pv : Value} (h : OwnScr base w s fv dv av pv) {P : TypeId → Prop} (k : KeepT P w w') (hP : P 2 ∧ P 5 ∧ P 3 ∧ P 77 ∧ P 60 ∧ P 59) : OwnScr base w' s fv dv av pv := ⟨k.own h.f hP.1, k.own h.d hP.2.1, h.a.keep k hP.2.2.2.1 hP.2.2.2.2.1 hP.2.2.2.2.2, k.own h.p hP.2.2.1⟩

theorem OwnScr.grown {base : Nat} {s : Scr} {fv dv av pv : Value} (h : OwnScr base w s fv dv av pv) (g : w.grownBy w' none) : OwnScr base w' s fv dv av pv := h.keep (P := fun _ => True) (KeepT.grown g) ⟨trivial, trivial, trivial, trivial, trivial, trivial⟩

theorem OwnScr.at {base : Nat} {s : Scr} {fv dv av pv : Value} (h : OwnScr base w s fv dv av pv) : ScrAt w s fv dv av pv := ⟨.of_own h.f, .of_own h.d, .of_own h.a, .of_own h.p⟩

/-- What an argument's numbers are. -/
def numsL (n : Nat) (z : Nat → Int) : List Int := (List.range n).map z

theorem numsL_len (n : Nat) (z : Nat → Int) : (numsL n z).length = n := by simp [numsL]

theorem numsL_at (n : Nat) (z : Nat → Int) {i : Nat} (h : i < n) : at0 (numsL n z) i = z i := by
  unfold at0 numsL
  rw [List.getD_eq_getElem?_getD]
  simp [h]

theorem NumsAt.of_row {a : Option Addr} {n c : Nat} {z : Nat → Int} (h : IsRow k w a n c z) : NumsAt k w (numsL n z) (.slice a n c) := by
  refine ⟨a, c, by rw [numsL_len], ?_⟩
  rw [numsL_len]
  exact (IsNums.of_row h).congr fun i hi => (numsL_at n z hi).symm

def tx3 (x : Txn) : List Op3 := (List.range x.n).map fun i => ⟨x.z i 0, x.z i 1, x.z i 2⟩

theorem tx3_len (x : Txn) : (tx3 x).length = x.n := by simp [tx3]

theorem Lies.map {α β : Type} {p : α → Value → Prop} {q : β → Value → Prop} {a : Option Addr} {l : List α} (f : α → β) (h : Lies w p a l) (hp : ∀ y v, p y v → q (f y) v) : Lies w q a (l.map f) := by
  rcases h with h | ⟨b, off, h1, h2, h3⟩
  · exact .inl (by rw [h]; rfl)
  · refine .inr ⟨b, off, h1, h2, fun i y hy => ?_⟩
    rw [List.getElem?_map] at hy
    obtain ⟨x, hx, rfl⟩ := Option.map_eq_some_iff.1 hy
    obtain ⟨v, h4, h5⟩ := h3 i x hx
    exact ⟨v, h4, hp _ _ h5⟩

theorem OpsAt.of_p {x : Txn} {v : Value} (h : pOp w x v) : OpsAt w (tx3 x) v := by
  obtain ⟨a, c, rfl, h2⟩ := h
  refine ⟨a, c, by rw [tx3_len], ?_⟩
  rw [tx3_len]
  refine h2.congr fun i j hi hj => ?_
  obtain ⟨e1, e2, e3⟩ := opZ_at (show (tx3 x)[i]? = some ⟨x.z i 0, x.z i 1, x.z i 2⟩ by simp [tx3, hi])
  rcases (by omega : j = 0 ∨ j = 1 ∨ j = 2) with rfl | rfl | rfl
  · exact e1.symm
  · exact e2.symm
  · exact e3.symm

theorem TxsAt.of_p {l : List Txn} {v : Value} (h : pTx w l v) : TxsAt w (l.map tx3) v := by
  obtain ⟨a, c, rfl, h2⟩ := h
  exact ⟨a, c, by rw [List.length_map], Lies.map tx3 h2 fun _ _ h => OpsAt.of_p h⟩

theorem AllAt.of_is {a : Option Addr} {c : Nat} {A : List (List Txn)} (h : IsAll w a A) : AllAt w (A.map fun l => l.map tx3) (.slice a A.length c) := ⟨a, c, by rw [List.length_map], Lies.map _ h fun _ _ h => TxsAt.of_p h⟩
end
end Go.Proofs.Ytinmhefkmjlelaa.sc

/- Two slices of the same numbers are told to be alike (quarrelref01.Vals). -/
namespace Go.Proofs.Ytinmhefkmjlelaa.vl
open Go Go.RowKit Go.Proofs.Ytinmhefkmjlelaa.base

theorem drewN_drewN (w : World) (n m : Nat) : (w.drewN n).drewN m = w.drewN (n + m) := by
  simp [World.drewN, Nat.add_assoc]

/-- A slice at a holds the numbers of l. -/
def Rd (w : World) (a : Option Addr) (l : List Int) : Prop := l = [] ∨ ∃ b off, a = some ⟨b, off, none⟩ ∧ ∀ i x, l[i]? = some x → w.cell? ⟨b, off + i, none⟩ = some (.int .i64 x)

theorem Rd.grown {w w' : World} {a : Option Addr} {l : List Int} (h : Rd w a l) {r : Option Nat} (g : w.grownBy w' r) (hr : ∀ b off, a = some ⟨b, off, none⟩ → some b ≠ r) : Rd w' a l := by
  rcases h with h | ⟨b, off, rfl, h⟩
  · exact .inl h
  · exact .inr ⟨b, off, rfl, fun i x hx => g.cell (h i x hx) (hr b off rfl)⟩
theorem Rd.only {w w' : World} {a : Option Addr} {l : List Int} {S : Nat → Prop} (h : Rd w a l) (g : Only S w w') (hr : ∀ b off, a = some ⟨b, off, none⟩ → ¬ S b) : Rd w' a l := by
  rcases h with h | ⟨b, off, rfl, h⟩
  · exact .inl h
  · exact .inr ⟨b, off, rfl, fun i x hx => (World.cell?_of_block (g.block b (World.block_lt_of_cell? _ _ (h i x hx)) (hr b off rfl))).trans (h i x hx)⟩
theorem Rd.drewN {w : World} {a : Option Addr} {l : List Int} (h : Rd w a l) (n : Nat) : Rd (w.drewN n) a l := h
theorem Rd.below {w w' : World} {a : Option Addr} {l : List Int} {B : Nat} (h : Rd w a l) (g : Below B w w') (hr : ∀ b off, a = some ⟨b, off, none⟩ → b < B) : Rd w' a l := by
  rcases h with h | ⟨b, off, rfl, h⟩
  · exact .inl h
  · exact .inr ⟨b, off, rfl, fun i x hx => (g.cell (p := ⟨b, off + i, none⟩) (hr b off rfl)).trans (h i x hx)⟩
/-- An argument's. -/
theorem Rd.of_row {w : World} {a : Option Addr} {len cap : Nat} {z : Nat → Int} (h : IsRow .i64 w a len cap z) : Rd w a ((List.range len).map z) := by
  obtain ⟨_, _, rfl | ⟨b, off, rfl, _, h⟩⟩ := h
  · exact .inl rfl
  · refine .inr ⟨b, off, rfl, fun i x hx => ?_⟩
    have hi : i < len := by
      have := (List.getElem?_eq_some_iff.1 hx).1
      simpa using this
    have : z i = x := by simpa [hi] using hx
    rw [← this]
    exact (h i hi).1
/-- What a call has made. -/
theorem Rd.of_own {w : World} {base : Nat} {e : TypeId} {a : Option Addr} {cap : Nat} {l : List Int} (h : w.ownsRow base e 1 (.slice a l.length cap) l.length (l.map fun x => .int .i64 x)) : Rd w a l := by
  rcases h.2 with ⟨e, h0⟩ | ⟨g, cap2, cur, e, _⟩
  · exact .inl (List.eq_nil_of_length_eq_zero h0)
  · injection e with e1 e2 e3
    subst e1
    refine .inr ⟨g, 0, rfl, fun i x hx => ?_⟩
    have hi : i < l.length := (List.getElem?_eq_some_iff.1 hx).1
    have h1 := h.cellAt i (by omega)
    rw [show 0 + i = i by omega]
    rw [h1]
    simp [hx]

theorem vals_true (a b : Option Addr) (l : List Int) (n : Nat) (hn : l.length = n) (ca cb : Nat) (w : World) (ha : Rd w a l) (hb : Rd w b l) (hm : l.length ≤ 100000) :
    Calls Try.prog 19 #[.slice a n ca, .slice b n cb] w fun e w' => ∃ q, e = .returned (.bool true) ∧ w.drewN q = w' := by
  subst hn
  have HA := Lib.hid ha
  have HB := Lib.hid hb
  clear ha hb
  go_enter Try.func19, Try.ntmps19
  go_wp2_with fail
  go_loopw [5] (fun i wr => ∃ k n : Nat, k ≤ l.length ∧ i = .int .i64 k ∧ wr = w.drewN n) (fun i _ => (l.length - intOf i).toNat)
  case atStart => exact ⟨0, 0, by omega, rfl, rfl⟩
  case round =>
    obtain ⟨k, n, hk, rfl, rfl⟩ := hrel
    by_cases hlt : k < l.length
    · obtain ⟨x, hx⟩ : ∃ x, l[k]? = some x := ⟨_, List.getElem?_eq_getElem hlt⟩
      have hne : l ≠ [] := fun e => by rw [e] at hlt; simp at hlt
      rcases HA.out with h | ⟨b1, o1, rfl, h1⟩
      · exact absurd h hne
      rcases HB.out with h | ⟨b2, o2, rfl, h2⟩
      · exact absurd h hne
      have d1 : (w.drewN n).cell? ⟨b1, o1 + k, none⟩ = some (.int .i64 x) := h1 k x hx
      have d2 : (w.drewN n).cell? ⟨b2, o2 + k, none⟩ = some (.int .i64 x) := h2 k x hx
      have hlt' : (k : Int) < (l.length : Int) := by omega
      clear h1 h2 hne hx
      generalize hw : w.drewN n = u at *
      go_wp2_with fail
      go_quiet (fail)
      go_wp2
      go_roundw
      case rel => exact ⟨k + 1, _, by omega, by go_num, by rw [← hw]; exact drewN_drewN w n _⟩
      case measure => simp [intOf]; omega
    · obtain rfl : k = l.length := by omega
      go_wp2
      go_ret
      exact ⟨n, rfl, rfl⟩
end Go.Proofs.Ytinmhefkmjlelaa.vl

/- The contract of package lang's op. -/
namespace Go.Proofs.Ytinmhefkmjlelaa.lg
open Go Go.RowKit Go.Proofs.Ytinmhefkmjlelaa.base
set_option linter.unusedVariables false

theorem op_any (b off cap : Nat) (x0 x1 x2 : Int) (w : World) (h0 : w.cell? ⟨b, off, none⟩ = some (.int .u8 x0)) (h1 : w.cell? ⟨b, off + 1, none⟩ = some (.int .u8 x1)) (h2 : w.cell? ⟨b, off + 2, none⟩ = some (.int .u8 x2)) (l0 : 0 ≤ x0 ∧ x0 ≤ 255) (l1 : 0 ≤ x1 ∧ x1 ≤ 255) (l2 : 0 ≤ x2 ∧ x2 ≤ 255) :
    Calls Try.prog 62 #[.slice (some ⟨b, off, none⟩) 3 cap] w fun e w' => e = .returned (.agg #[.int .i64 x0, .int .i64 x1, .int .i64 (s8 x2)]) ∧ Hid (w.grownBy w' none) := by
  obtain ⟨l00, l01⟩ := l0
  obtain ⟨l10, l11⟩ := l1
  obtain ⟨l20, l21⟩ := l2
  have e0 : IntKind.i64.wrap x0 = x0 := IntWalk.i64_in _ (by omega)
  have e1 : IntKind.i64.wrap x1 = x1 := IntWalk.i64_in _ (by omega)
  have hb := World.block_lt_of_cell? w _ h0
  have n0 : w.heap.size ≠ b := by simp at hb; omega
  have n1 : b ≠ w.heap.size := by simp at hb; omega
  have G := Lib.hid (World.grownBy_alloc w (.cells #[.int .i64 0, .int .i64 0, .int .i64 0] 77) none)
  have O := Lib.hid (Blk.made w 77 #[.int .i64 0, .int .i64 0, .int .i64 0])
  have c0 := G.out.cell h0 (by simp)
  have c1 := G.out.cell h1 (by simp)
  have c2 := G.out.cell h2 (by simp)
  have e2 : IntKind.i8.wrap x2 = s8 x2 := by
    have h1 : x2 % 256 = x2 := by omega
    have h2 : IntKind.i8.wrap x2 = if 128 ≤ x2 % 256 then x2 % 256 - 256 else x2 % 256 := by simp only [IntKind.wrap, show IntKind.i8.signed = true from rfl, show IntKind.i8.bits = 8 from rfl, Bool.true_and, decide_eq_true_eq]; rfl
    rw [h2, h1]
    unfold s8
    split <;> split <;> omega
  have e3 : IntKind.i64.wrap (s8 x2) = s8 x2 := IntWalk.i64_in _ (by unfold s8; split <;> omega)
  clear h0 h1 h2
  go_enter Try.func62, Try.ntmps62
  go_upto_region 1 with fail
  generalize w.alloc _ = v at *
  generalize hob : w.heap.size = ob at *
  have HB := Lib.hid hob
  clear hob
  have o0 := O.out.at 0 rfl; have o1 := O.out.at 1 rfl; have o2 := O.out.at 2 rfl
  have f0 := O.out.free 0; have f1 := O.out.free 1; have f2 := O.out.free 2
  have hb2 := World.block_lt_of_cell? v _ c0
  simp only at hb2
  go_region
  go_wp2
  have O3 := Lib.hid (((O.out.set 0 (.int .i64 x0)).set 1 (.int .i64 x1)).set 2 (.int .i64 (s8 x2)))
  have G3 := Lib.hid (gb_setNew (gb_setNew (gb_setNew G.out (p := ⟨ob, 0, none⟩) (by have := HB.out; simp; omega) (.int .i64 x0)) (p := ⟨ob, 1, none⟩) (by have := HB.out; simp; omega) (.int .i64 x1)) (p := ⟨ob, 2, none⟩) (by have := HB.out; simp; omega) (.int .i64 (s8 x2)))
  generalize ((v.setCell _ _).setCell _ _).setCell _ _ = v3 at *
  clear o0 o1 o2
  have o0 : v3.cell? ⟨ob, 0, none⟩ = some (.int .i64 x0) := O3.out.cell 0
  have o1 : v3.cell? ⟨ob, 1, none⟩ = some (.int .i64 x1) := O3.out.cell 1
  have o2 : v3.cell? ⟨ob, 2, none⟩ = some (.int .i64 (s8 x2)) := O3.out.cell 2
  refine bodyPost_ret (v := .agg #[.int .i64 x0, .int .i64 x1, .int .i64 (s8 x2)]) ?_ rfl ⟨rfl, gb_drew G3.out⟩
  simp [results, Try.results62, go_sem, *]
end Go.Proofs.Ytinmhefkmjlelaa.lg

/- The contract of package lang's Get. -/
namespace Go.Proofs.Ytinmhefkmjlelaa.lg
open Go Go.RowKit Go.Proofs.Ytinmhefkmjlelaa.base
set_option linter.unusedVariables false

/-- How many whole operations n bytes hold that may be, and what Get answers. -/
def GetR (w : World) (bf : Nat → Int) (n : Nat) (objs : Int) (e : Ending) (w' : World) : Prop :=
  w.grownBy w' none ∧
  ((∃ m b' c', n = m * 3 ∧ okN (gz bf) objs m = true ∧ e = .returned (.tuple #[.slice b' m c', .int .i64 (-1), .int .i64 0]) ∧ w'.ownsRow w.heap.size 77 3 (.slice b' m c') m (ops (gz bf) m)) ∨
   (∃ m, m * 3 < n ∧ n < m * 3 + 3 ∧ okN (gz bf) objs m = true ∧ e = .returned (.tuple #[.slice none 0 0, .int .i64 ((m * 3 : Nat) : Int), .int .i64 9])) ∨
   (∃ m, m * 3 + 3 ≤ n ∧ okN (gz bf) objs m = true ∧ okB (gz bf m 0) (gz bf m 1) (gz bf m 2) objs = false ∧ e = .returned (.tuple #[.slice none 0 0, .int .i64 ((m * 3 : Nat) : Int), .int .i64 3])))

theorem gz0 (f : Nat → Int) (k : Nat) : gz f k 0 = f (k * 3) := by simp [gz]
theorem gz1 (f : Nat → Int) (k : Nat) : gz f k 1 = f (k * 3 + 1) := by simp [gz]
theorem gz2 (f : Nat → Int) (k : Nat) : gz f k 2 = s8 (f (k * 3 + 2)) := by simp [gz]

set_option maxHeartbeats 1000000 in
theorem get_any (a1 : Option Addr) (n cap : Nat) (bf : Nat → Int) (objs : Int) (w : World) (hz : IsNums .u8 w a1 n bf) (hb : ∀ i, i < n → 0 ≤ bf i ∧ bf i ≤ 255) (hc : n ≤ cap) (hm : cap ≤ maxLen) (hn : n ≤ 100000) :
    Calls Try.prog 61 #[.slice a1 n cap, .int .i64 objs] w (GetR w bf n objs) := by
  unfold maxLen at hm
  have Z := Lib.hid hz
  have HB := Lib.hid hb
  clear hz hb
  go_enter Try.func61, Try.ntmps61
  go_wp2_with fail
  go_loopw [7, 8] (fun lv iv wr => ∃ (k m : Nat) (b' : Option Addr) (c' : Nat), m ≤ n ∧ iv = .int .i64 m ∧ Hid (m = k * 3) ∧ lv = .slice b' k c' ∧ Hid (okN (gz bf) objs k = true) ∧ Hid (wr.ownsRow w.heap.size 77 3 (.slice b' k c') k (ops (gz bf) k)) ∧ Hid (w.grownBy wr none)) (fun _ iv _ => (n - intOf iv).toNat)
  case atStart => exact ⟨0, 0, none, 0, by omega, rfl, rfl, rfl, rfl, World.ownsRow_nil _ _ _ _, gb_refl _ _⟩
  case round =>
    obtain ⟨k, m, b', c', hmn, rfl, hm3, rfl, K, O, G⟩ := hrel
    by_cases hlt : m < n
    · have hlt' : (m : Int) < (n : Int) := by omega
      by_cases h3 : n < m + 3
      · have h3' : decide ((n : Int) - (m : Int) < 3) = true := by simp; omega
        go_wp2
        refine bodyPost_ret (v := .tuple #[.slice none 0 0, .int .i64 m, .int .i64 9]) ?_ rfl ?_
        · simp [results, Try.results61, go_sem]
        · exact ⟨G.out, .inr (.inl ⟨k, by have := hm3.out; omega, by have := hm3.out; omega, K.out, by rw [hm3.out]⟩)⟩
      · have h3' : decide ((n : Int) - (m : Int) < 3) = false := by simp; omega
        obtain ⟨b1, off1, rfl, hb1, c0⟩ := (Z.out.grown G.out).at1 hlt
        obtain ⟨_, _, e1, _, c1⟩ := (Z.out.grown G.out).at1 (show m + 1 < n by omega)
        cases e1
        obtain ⟨_, _, e1, _, c2⟩ := (Z.out.grown G.out).at1 (show m + 2 < n by omega)
        cases e1
        go_wp2_with fail
        have E := Lib.hid (show gz bf k 0 = bf m ∧ gz bf k 1 = bf (m + 1) ∧ gz bf k 2 = s8 (bf (m + 2)) by rw [gz0, gz1, gz2, hm3.out]; exact ⟨rfl, rfl, rfl⟩)
        have l0 := HB.out m hlt
        have l1 := HB.out (m + 1) (by omega)
        have l2 := HB.out (m + 2) (by omega)
        refine (op_any b1 (off1 + m) (cap - m) (bf m) (bf (m + 1)) (bf (m + 2)) _ c0 c1 c2 l0 l1 l2).mono ?_
        rintro e u1 ⟨rfl, g1⟩
        clear l0 l1 l2 c0 c1 c2
        generalize hx0 : bf m = x0 at *
        generalize hx1 : bf (m + 1) = x1 at *
        generalize hx2 : s8 (bf (m + 2)) = x2 at *
        clear hx0 hx1 hx2
        have G1 := Lib.hid (gb_alloc (gb_trans G.out g1.out) (.cells #[.int .i64 x0, .int .i64 x1, .int .i64 x2] 77))
        have O1 := Lib.hid (ownsRow_keep (w' := u1.alloc (.cells #[.int .i64 x0, .int .i64 x1, .int .i64 x2] 77)) O.out (fun b e => (Below.heap_alloc _ _ b (Nat.lt_of_lt_of_le (O.out.lt b e).2 g1.out.size)).trans (g1.out.block b (O.out.lt b e).2 (by simp))))
        have B1 := Lib.hid (Blk.made u1 77 #[.int .i64 x0, .int .i64 x1, .int .i64 x2])
        clear O G g1 Z
        cases hB : okB x0 x1 x2 objs with
        | false =>
          have HO := Lib.hid (fun u => (hB ▸ ok_any x0 x1 x2 objs u))
          have HN := Lib.hid (show okB (gz bf k 0) (gz bf k 1) (gz bf k 2) objs = false by rw [E.out.1, E.out.2.1, E.out.2.2]; exact hB)
          clear hB
          go_wp2_with fail
          refine (HO.out _).mono ?_
          rintro e u ⟨rfl, g⟩
          go_wp2
          refine bodyPost_ret (v := .tuple #[.slice none 0 0, .int .i64 m, .int .i64 3]) ?_ rfl ?_
          · simp [results, Try.results61, go_sem]
          · exact ⟨gb_trans G1.out g.out, .inr (.inr ⟨k, by have := hm3.out; omega, K.out, HN.out, by rw [hm3.out]⟩)⟩
        | true =>
          have HO := Lib.hid (fun u => (hB ▸ ok_any x0 x1 x2 objs u))
          have HN := Lib.hid (show okN (gz bf) objs (k + 1) = true by simp only [okN, K.out, E.out.1, E.out.2.1, E.out.2.2, hB]; rfl)
          have HR := Lib.hid (show ops (gz bf) (k + 1) = ops (gz bf) k ++ [.int .i64 x0, .int .i64 x1, .int .i64 x2] by rw [ops_succ, opc, E.out.1, E.out.2.1, E.out.2.2])
          clear hB
          go_wp2_with fail
          refine (HO.out _).mono ?_
          rintro e u2 ⟨rfl, g2⟩
          have O2 := Lib.hid (ownsRow_keep O1.out (fun b e => g2.out.block b (O1.out.lt b e).2 (by simp)))
          have G2 := Lib.hid (gb_trans G1.out g2.out)
          have hsz := Lib.hid (show w.heap.size ≤ u2.heap.size from G2.out.size)
          have B2 := Lib.hid (B1.out.grown g2.out (by simp))
          clear O1 G1 g2 B1
          generalize u1.heap.size = ob at *
          have p0 : u2.cell? ⟨ob, 0, none⟩ = some (.int .i64 x0) := B2.out.cell 0
          have p1 : u2.cell? ⟨ob, 1, none⟩ = some (.int .i64 x1) := B2.out.cell 1
          have p2 : u2.cell? ⟨ob, 2, none⟩ = some (.int .i64 x2) := B2.out.cell 2
          have hk := Lib.hid (show k + 1 ≤ 1000000 by have := hm3.out; omega)
          go_wp2_with (at_builtin; go_loud (refine appendOp _ rfl (.tmp 33) (.tmp 35) rfl w.heap.size _ k (ops (gz bf) k) rfl (ownsRow_keep O2.out (fun b e => Below.heap_alloc _ _ b (O2.out.lt b e).2)) (some ⟨u2.heap.size, 0, none⟩) 1 1 [.int .i64 x0, .int .i64 x1, .int .i64 x2] rfl rfl (new_src _ _ _ _ rfl) (by intro u hu; simp at hu; rcases hu with rfl | rfl | rfl <;> rfl) hk.out (by have := hsz.out; simp; omega) ?_); intro b2 c2' w3 ho hg hv; clear hv)
          have HM := Lib.hid (show m + 3 = (k + 1) * 3 by have := hm3.out; omega)
          have O3 : Hid (w3.ownsRow w.heap.size 77 3 (.slice b2 (k + 1) c2') (k + 1) (ops (gz bf) (k + 1))) := by rw [HR.out]; exact ho
          have G3 := Lib.hid (gb_overO (gb_alloc G2.out _) hg (fun i hi => (O2.out.lt i hi).1))
          clear ho hg
          go_roundw
          case rel => exact ⟨k + 1, m + 3, b2, c2', by omega, by go_num, HM, rfl, HN, O3, G3⟩
          case measure => simp [intOf]; omega
    · obtain rfl : m = n := by omega
      go_wp2
      refine bodyPost_ret (v := .tuple #[.slice b' k c', .int .i64 (-1), .int .i64 0]) ?_ rfl ?_
      · simp [results, Try.results61, go_sem]
      · exact ⟨G.out, .inl ⟨k, b', c', hm3.out, K.out, rfl, O.out⟩⟩
end Go.Proofs.Ytinmhefkmjlelaa.lg

/- The contract of the document's own Get (quarrelref11.Get). -/
namespace Go.Proofs.Ytinmhefkmjlelaa.lg
open Go Go.RowKit Go.Proofs.Ytinmhefkmjlelaa.base
set_option linter.unusedVariables false

def lenV : Value → Nat
  | .slice _ n _ => n
  | _ => 0

end Go.Proofs.Ytinmhefkmjlelaa.lg

/- What Get answers, by what the bytes hold. -/
namespace Go.Proofs.Ytinmhefkmjlelaa.lg
open Go Go.RowKit Go.Proofs.Ytinmhefkmjlelaa.base
set_option linter.unusedVariables false

/-- All operations, and nothing behind them. -/
def GA (bf : Nat → Int) (n : Nat) (objs : Int) (m : Nat) : Prop := n = m * 3 ∧ okN (gz bf) objs m = true
/-- The last one is short. -/
def GB (bf : Nat → Int) (n : Nat) (objs : Int) (m : Nat) : Prop := m * 3 < n ∧ n < m * 3 + 3 ∧ okN (gz bf) objs m = true
/-- One may not be. -/
def GC (bf : Nat → Int) (n : Nat) (objs : Int) (m : Nat) : Prop := m * 3 + 3 ≤ n ∧ okN (gz bf) objs m = true ∧ okB (gz bf m 0) (gz bf m 1) (gz bf m 2) objs = false

theorem get_cases (bf : Nat → Int) (n : Nat) (objs : Int) : (∃ m, GA bf n objs m) ∨ (∃ m, GB bf n objs m) ∨ ∃ m, GC bf n objs m := by
  cases h : okN (gz bf) objs (n / 3) with
  | true =>
    by_cases e : n % 3 = 0
    · exact .inl ⟨n / 3, by omega, h⟩
    · exact .inr (.inl ⟨n / 3, by omega, by omega, h⟩)
  | false =>
    obtain ⟨i, hi, h1, h2⟩ := okN_first h
    exact .inr (.inr ⟨i, by omega, h1, h2⟩)
theorem AC {bf : Nat → Int} {n : Nat} {objs : Int} {m k : Nat} (h : okN (gz bf) objs m = true) (hl : n < m * 3 + 3) (c : GC bf n objs k) : False := by
  obtain ⟨c1, c2, c3⟩ := c
  rw [okN_at h (show k < m by omega)] at c3
  cases c3
theorem CC {bf : Nat → Int} {n : Nat} {objs : Int} {m k : Nat} (c : GC bf n objs m) (d : GC bf n objs k) : m = k := by
  obtain ⟨c1, c2, c3⟩ := c
  obtain ⟨d1, d2, d3⟩ := d
  rcases Nat.lt_trichotomy m k with h | h | h
  · rw [okN_at d2 h] at c3; cases c3
  · exact h
  · rw [okN_at c2 h] at d3; cases d3

end Go.Proofs.Ytinmhefkmjlelaa.lg

/- The contract of package lang's Put. -/
namespace Go.Proofs.Ytinmhefkmjlelaa.lg
open Go Go.RowKit Go.Proofs.Ytinmhefkmjlelaa.base
set_option linter.unusedVariables false

theorem put_any (a1 : Option Addr) (len cap : Nat) (z : Nat → Nat → Int) (w : World) (hz : IsOps w a1 len z) (hl : len ≤ 1000) :
    Calls Try.prog 43 #[.slice a1 len cap] w fun e w' => ∃ b' c', e = .returned (.slice b' (len * 3) c') ∧ Hid (w'.ownsRow w.heap.size 5 1 (.slice b' (len * 3) c') (len * 3) (u8s (pb z) (len * 3))) ∧ Hid (w.grownBy w' none) := by
  obtain ⟨i0, hi0, hz00, hz10, hz20⟩ := info_parts infoU8
  have hi := Lib.hid hi0
  have hz0 := Lib.hid hz00
  have hz1 := Lib.hid hz10
  have hz2 := Lib.hid hz20
  have Z := Lib.hid hz
  clear hi0 hz00 hz10 hz20 hz
  have hc : IntKind.i64.wrap (3 * (len : Int)) = ((len * 3 : Nat) : Int) := by rw [IntWalk.i64_in _ (by omega)]; omega
  have hc2 : (3 : Int) * (len : Int) = ((len * 3 : Nat) : Int) := by omega
  have HC := Lib.hid hc2
  clear hc hc2
  go_enter Try.func43, Try.ntmps43
  go_wp2_with (at_make; refine wpList_make_own _ rfl _ _ 22 rfl w.heap.size 5 i0 (.int .u8 0) 1 Try.underlying22 hi.out hz0.out hz1.out .i64 .i64 (3 * (len : Int)) (len * 3) rfl rfl HC.out (by rw [hz2.out]; omega) (by unfold maxLen; omega) (Nat.le_refl _) ?_; intro w1 ho1 hg1)
  have O1 : Hid (w1.ownsRow w.heap.size 5 1 (.slice (some ⟨w.heap.size, 0, none⟩) (0 * 3) (len * 3)) (0 * 3) (u8s (pb z) (0 * 3))) := ho1
  have G1 := Lib.hid hg1
  clear ho1 hg1
  generalize hB : w.heap.size = B at *
  have HB := Lib.hid hB
  clear hB
  clear HC
  go_loopw [3, 12] (fun bv iv wr => ∃ (k m : Nat) (b' : Option Addr) (c' : Nat), k ≤ len ∧ iv = .int .i64 k ∧ Hid (m = k * 3) ∧ bv = .slice b' m c' ∧ Hid (wr.ownsRow B 5 1 (.slice b' m c') m (u8s (pb z) m)) ∧ Hid (w.grownBy wr none)) (fun _ iv _ => (len - intOf iv).toNat)
  case atStart => exact ⟨0, 0, _, _, by omega, rfl, rfl, rfl, O1, G1⟩
  case round =>
    obtain ⟨k, m, b', c', hk, rfl, hm, rfl, O, G⟩ := hrel
    clear O1 G1
    by_cases hlt : k < len
    · obtain ⟨b1, off1, rfl, hb1, c0, c1, c2⟩ := (Z.out.grown G.out).at3 hlt
      have hlt' : (k : Int) < (len : Int) := by omega
      have hms : m + 3 ≤ 1000000 := by have := hm.out; omega
      have HN := Lib.hid (show u8s (pb z) (m + 3) = u8s (pb z) m ++ [.int .u8 (z k 0 % 256), .int .u8 (z k 1 % 256), .int .u8 (z k 2 % 256)] by rw [u8s_succ3, hm.out, pb0, pb1, pb2])
      generalize z k 0 = z0 at *
      generalize z k 1 = z1 at *
      generalize z k 2 = z2 at *
      have hle := Lib.hid G.out.size
      go_wp2_with (at_builtin; go_loud (refine appendU8 _ rfl (.tmp 16) (.tmp 26) rfl B _ m (u8s (pb z) m) rfl (ownsRow_keep O.out (fun b e => (Below.heap_alloc _ _ b (by have := (O.out.lt b e).2; simp; omega)).trans (Below.heap_alloc _ _ b (O.out.lt b e).2))) (some ⟨wr.heap.size + 1, 0, none⟩) 3 3 [.int .u8 (z0 % 256), .int .u8 (z1 % 256), .int .u8 (z2 % 256)] rfl rfl (new_src _ _ _ _ (by simp)) (by intro u hu; simp at hu; rcases hu with rfl | rfl | rfl <;> rfl) hms (by have := HB.out; have := hle.out; simp; omega) ?_); intro b2 c2' w3 ho hg hv)
      have HM := Lib.hid (show m + 3 = (k + 1) * 3 by have := hm.out; omega)
      have O3 : Hid (w3.ownsRow B 5 1 (.slice b2 (m + 3) c2') (m + 3) (u8s (pb z) (m + 3))) := by rw [HN.out]; exact ho
      have G3 := Lib.hid (gb_overO (gb_alloc (gb_alloc G.out _) _) hg (fun i hi => by have := (O.out.lt i hi).1; have := HB.out; omega))
      clear ho hg hv
      go_roundw
      case rel => exact ⟨k + 1, m + 3, b2, c2', by omega, by go_num, HM, rfl, O3, G3⟩
      case measure => simp [intOf]; omega
    · obtain rfl : k = len := by omega
      obtain rfl := hm.out
      go_wp2
      go_ret
      exact ⟨b', c', rfl, by rw [HB.out]; exact O, G⟩
end Go.Proofs.Ytinmhefkmjlelaa.lg

/- Bytes as a string; the bytes of operations, and the operations of bytes. -/
namespace Go.Proofs.Ytinmhefkmjlelaa.lg
open Go Go.RowKit Go.Proofs.Ytinmhefkmjlelaa.base
set_option linter.unusedVariables false

/-- The first n bytes of f, as a string. -/
def bs (f : Nat → Int) (n : Nat) : ByteArray := ⟨((List.range n).map fun i => UInt8.ofNat (f i).toNat).toArray⟩
theorem bs_size (f : Nat → Int) (n : Nat) : (bs f n).size = n := by simp [bs, ByteArray.size]
theorem bs_congr {f g : Nat → Int} {n : Nat} (h : ∀ i, i < n → f i = g i) : bs f n = bs g n := by
  unfold bs
  congr 2
  exact List.map_congr_left fun i hi => by rw [h i (by simpa using hi)]
theorem bs_add (f : Nat → Int) (m n : Nat) : bs f (m + n) = bs f m ++ bs (fun i => f (m + i)) n := by
  unfold bs
  rw [ByteArray.mk_append_mk]
  simp [List.range_add]
theorem fold_push (g : Int → UInt8) : ∀ (l : List Int) (s : ByteArray), l.foldl (fun r n => r.push (g n)) s = ⟨s.data ++ (l.map g).toArray⟩ := by
  intro l
  induction l with
  | nil => intro s; simp
  | cons n l ih =>
    intro s
    rw [List.foldl_cons, ih]
    simp [ByteArray.push]

theorem conv_str (w : World) (a : Option Addr) (n c : Nat) (f : Nat → Int) (h : IsNums .u8 w a n f) : (convert 22 9 (.slice a n c)).run Try.prog w = .ok (.string (bs f n)) w := by
  rw [run_convert_bytes_string w _ _ 5 a n c Try.underlying22 Try.underlying5 Try.underlying9]
  cases a with
  | none =>
    obtain rfl : n = 0 := by
      rcases h with h | ⟨_, _, h, _⟩
      · exact h
      · cases h
    simp [Conv.bytesToString, bs]
    rfl
  | some ad =>
    have hl := run_loadCells_list (P := Try.prog) w ad (((List.range n).map f).map (Value.int .u8)) (by
      rcases h.src with ⟨rfl, _⟩ | ⟨ad', e, h⟩
      · intro j v hj; simp at hj
      · cases e
        intro j v hj
        exact h j v (by simpa using hj))
    have hlen : (((List.range n).map f).map (Value.int .u8)).length = n := by simp
    rw [hlen] at hl
    rw [run_bytesToString w ad n c ((List.range n).map f) hl, fold_push]
    simp [bs]

theorem pb_range (z : Nat → Nat → Int) (n : Nat) : ∀ i, i < n → 0 ≤ pb z i ∧ pb z i ≤ 255 := by
  intro i _
  unfold pb
  omega
/-- The operations of the bytes of operations. -/
theorem gzpb (z : Nat → Nat → Int) (i j : Nat) (hj : j < 3) : gz (pb z) i j = if j = 2 then s8 (z i 2 % 256) else z i j % 256 := by
  rcases (by omega : j = 0 ∨ j = 1 ∨ j = 2) with rfl | rfl | rfl
  · rw [gz0, pb0]; simp
  · rw [gz1, pb1]; simp
  · rw [gz2, pb2]; simp
theorem gz_pb {z : Nat → Nat → Int} {i : Nat} {n : Int} (h : okB (z i 0) (z i 1) (z i 2) n = true) (hn : n ≤ 256) (j : Nat) (hj : j < 3) : gz (pb z) i j = z i j := by
  rw [gzpb z i j hj]
  have hk := okB_kind h
  unfold okB at h
  rcases (by omega : j = 0 ∨ j = 1 ∨ j = 2) with rfl | rfl | rfl
  · simp; omega
  · simp only [show ¬ (1 = 2) by decide, if_false]
    split at h <;> simp at h <;> omega
  · simp only [if_true]
    unfold s8
    split at h <;> simp at h <;> split <;> omega
theorem pb_gz {f : Nat → Int} {n : Nat} (h : ∀ i, i < n → 0 ≤ f i ∧ f i ≤ 255) : ∀ i, i < n → pb (gz f) i = f i := by
  intro i hi
  have hb := h i hi
  unfold pb gz
  split
  · rw [show i / 3 * 3 + 2 = i by omega]
    unfold s8
    split <;> omega
  · rw [show i / 3 * 3 + i % 3 = i by omega]
    omega
theorem okN_pb {z : Nat → Nat → Int} {n : Int} {m : Nat} (h : okN z n m = true) (hn : n ≤ 256) : okN (gz (pb z)) n m = true :=
  okN_of fun i hi => by
    have := okN_at h hi
    rw [gz_pb this hn 0 (by omega), gz_pb this hn 1 (by omega), gz_pb this hn 2 (by omega)]
    exact this

/-- Get, whatever it answers. -/
theorem get_some (a1 : Option Addr) (n cap : Nat) (bf : Nat → Int) (objs : Int) (w : World) (hz : IsNums .u8 w a1 n bf) (hb : ∀ i, i < n → 0 ≤ bf i ∧ bf i ≤ 255) (hc : n ≤ cap) (hm : cap ≤ maxLen) (hn : n ≤ 100000) :
    Calls Try.prog 61 #[.slice a1 n cap, .int .i64 objs] w fun e w' => ∃ b' m c' p q, e = .returned (.tuple #[.slice b' m c', .int .i64 p, .int .i64 q]) ∧ Hid (w.grownBy w' none) :=
  (get_any a1 n cap bf objs w hz hb hc hm hn).mono fun e w' h => by
    obtain ⟨g, ⟨m, b', c', _, _, h, _⟩ | ⟨m, _, _, _, h⟩ | ⟨m, _, _, _, h⟩⟩ := h
    · exact ⟨b', m, c', _, _, h, g⟩
    · exact ⟨none, 0, 0, _, _, h, g⟩
    · exact ⟨none, 0, 0, _, _, h, g⟩
end Go.Proofs.Ytinmhefkmjlelaa.lg

/- What the statements of layer 20 ask: is a script the document's? -/
namespace Go.Proofs.Ytinmhefkmjlelaa.sc
open Go Go.RowKit Go.Proofs.Ytinmhefkmjlelaa.base Go.Proofs.Ytinmhefkmjlelaa.lg Go.Proofs.Ytinmhefkmjlelaa.md
set_option linter.unusedVariables false
set_option linter.unusedSimpArgs false
set_option maxRecDepth 100000

theorem rd_of {w : World} {a : Option Addr} {l : List Int} (h : IsNums .i64 w a l.length (at0 l)) : vl.Rd w a l := by
  rcases h with h | ⟨b, off, e, _, h⟩
  · exact .inl (List.eq_nil_of_length_eq_zero h)
  · refine .inr ⟨b, off, e, fun i x hx => ?_⟩
    have hi := (List.getElem?_eq_some_iff.1 hx).1
    have := h i hi
    rw [this]
    unfold at0
    rw [List.getD_eq_getElem?_getD, hx]
    rfl

theorem ints_true (a b : Option Addr) (n ca cb : Nat) (f : Nat → Int) (w : World) (ha : IsNums .i64 w a n f) (hb : IsNums .i64 w b n f) (hm : n ≤ 100000) : Calls Try.prog 24 #[.slice a n ca, .slice b n cb] w fun e w' => e = .returned (.bool true) ∧ Hid (w.grownBy w' none) := by
  have HA := Lib.hid ha
  have HB := Lib.hid hb
  clear ha hb
  go_enter Try.func24, Try.ntmps24
  go_wp2_with fail
  go_loopw [5] (fun i wr => ∃ k : Nat, k ≤ n ∧ i = .int .i64 k ∧ Hid (w.grownBy wr none)) (fun i _ => (n - intOf i).toNat)
  case atStart => exact ⟨0, by omega, rfl, gb_refl _ _⟩
  case round =>
    obtain ⟨k, hk, rfl, G⟩ := hrel
    by_cases hlt : k < n
    · obtain ⟨b1, o1, rfl, hb1, d1⟩ := (HA.out.grown G.out).at1 hlt
      obtain ⟨b2, o2, rfl, hb2, d2⟩ := (HB.out.grown G.out).at1 hlt
      have hlt' : (k : Int) < (n : Int) := by omega
      generalize f k = x at *
      go_wp2_with fail
      go_quiet (fail)
      go_wp2
      go_roundw
      case rel => exact ⟨k + 1, by omega, by go_num, by first | exact gb_drewN G.out _ | exact gb_drew (gb_drewN G.out _)⟩
      case measure => simp [intOf]; omega
    · obtain rfl : k = n := by omega
      go_wp2
      go_ret
      exact ⟨rfl, G⟩

set_option maxHeartbeats 4000000 in
theorem same_script (s : Scr) (fv dv av pv gv ev bv qv : Value) (w : World) (hs : ScrAt w s fv dv av pv) (ht : ScrAt w s gv ev bv qv) (h1 : s.first.length ≤ 100000) (h2 : s.all.length ≤ 100000) (h3 : s.picks.length ≤ 100000) (h4 : ∀ t ∈ s.all, t.length ≤ 100000) (h5 : ∀ t ∈ s.all, ∀ x ∈ t, x.length ≤ maxLen) : Calls Try.prog 12 #[.agg ⟨cfC s.c ++ [fv, dv, av, pv]⟩, .agg ⟨cfC s.c ++ [gv, ev, bv, qv]⟩] w fun r w' => r = .returned (.bool true) ∧ Hid (w.grownBy w' none) := by
  obtain ⟨⟨fa, fc, rfl, f1⟩, ⟨da, dc, rfl, d1⟩, ⟨aa, ac, rfl, a1⟩, ⟨pa, pc, rfl, p1⟩⟩ := hs
  obtain ⟨⟨ga, gc, rfl, f2⟩, ⟨ea, ec, rfl, d2⟩, ⟨ba, bc, rfl, a2⟩, ⟨qa, qc, rfl, p2⟩⟩ := ht
  obtain ⟨⟨co, ct, cr, ck, cm, cw⟩, f, d, A, p⟩ := s
  dsimp only at *
  have F1 := Lib.hid f1
  have F2 := Lib.hid f2
  have D1 := Lib.hid d1
  have D2 := Lib.hid d2
  have A1 := Lib.hid a1
  have A2 := Lib.hid a2
  have P1 := Lib.hid p1
  have P2 := Lib.hid p2
  have H4 := Lib.hid h4
  have H5 := Lib.hid h5
  clear f1 f2 d1 d2 a1 a2 p1 p2 h4 h5
  have O1 : Hid (Own w ((w.alloc (.cells #[.int .i64 co, .int .i64 ct, .int .i64 cr, .int .i64 ck, .int .i64 cm, .int .i64 cw, .slice fa f.length fc, .slice da d.length dc, .slice aa A.length ac, .slice pa p.length pc] 30)).alloc (.cells #[.int .i64 co, .int .i64 ct, .int .i64 cr, .int .i64 ck, .int .i64 cm, .int .i64 cw, .slice ga f.length gc, .slice ea d.length ec, .slice ba A.length bc, .slice qa p.length qc] 34)) [(w.heap.size + 1, 34, [.int .i64 co, .int .i64 ct, .int .i64 cr, .int .i64 ck, .int .i64 cm, .int .i64 cw, .slice ga f.length gc, .slice ea d.length ec, .slice ba A.length bc, .slice qa p.length qc]), (w.heap.size, 30, [.int .i64 co, .int .i64 ct, .int .i64 cr, .int .i64 ck, .int .i64 cm, .int .i64 cw, .slice fa f.length fc, .slice da d.length dc, .slice aa A.length ac, .slice pa p.length pc])]) := by
    have X := ((Own.start w).alloc 30 [.int .i64 co, .int .i64 ct, .int .i64 cr, .int .i64 ck, .int .i64 cm, .int .i64 cw, .slice fa f.length fc, .slice da d.length dc, .slice aa A.length ac, .slice pa p.length pc]).alloc 34 [.int .i64 co, .int .i64 ct, .int .i64 cr, .int .i64 ck, .int .i64 cm, .int .i64 cw, .slice ga f.length gc, .slice ea d.length ec, .slice ba A.length bc, .slice qa p.length qc]
    simp only [size_alloc] at X
    exact X
  show Calls Try.prog 12 #[.agg #[.int .i64 co, .int .i64 ct, .int .i64 cr, .int .i64 ck, .int .i64 cm, .int .i64 cw, .slice fa f.length fc, .slice da d.length dc, .slice aa A.length ac, .slice pa p.length pc], .agg #[.int .i64 co, .int .i64 ct, .int .i64 cr, .int .i64 ck, .int .i64 cm, .int .i64 cw, .slice ga f.length gc, .slice ea d.length ec, .slice ba A.length bc, .slice qa p.length qc]] w _
  go_enter Try.func12, Try.ntmps12
  go_wp2_with fail
  generalize (w.alloc _).alloc _ = v at *
  generalize w.heap.size + 1 = tb at *
  generalize w.heap.size = sb at *
  refine (vl.vals_true fa ga f f.length rfl fc gc v (rd_of (F1.out.grown O1.out.grow)) (rd_of (F2.out.grown O1.out.grow)) h1).mono ?_
  rintro r u ⟨q, rfl, rfl⟩
  have O2 := Lib.hid (O1.out.drewN q)
  clear O1
  generalize v.drewN q = u at *
  have x6 := O2.out.cell 1 6 rfl rfl; have x7 := O2.out.cell 1 7 rfl rfl; have x8 := O2.out.cell 1 8 rfl rfl; have x9 := O2.out.cell 1 9 rfl rfl; have y6 := O2.out.cell 0 6 rfl rfl; have y7 := O2.out.cell 0 7 rfl rfl; have y8 := O2.out.cell 0 8 rfl rfl; have y9 := O2.out.cell 0 9 rfl rfl
  have hv1 := conv_str u da d.length dc (at0 d) (D1.out.grown O2.out.grow)
  have hv2 := conv_str u ea d.length ec (at0 d) (D2.out.grown O2.out.grow)
  generalize bs (at0 d) d.length = X at *
  go_wp2_with fail
  refine (ints_true pa qa p.length pc qc (at0 p) u (P1.out.grown O2.out.grow) (P2.out.grown O2.out.grow) h3).mono ?_
  rintro r u3 ⟨rfl, g⟩
  have O3 := Lib.hid (O2.out.grown g.out)
  clear O2 g hv1 hv2
  clear x6 x7 x8 x9 y6 y7 y8 y9
  have x6 := O3.out.cell 1 6 rfl rfl; have x7 := O3.out.cell 1 7 rfl rfl; have x8 := O3.out.cell 1 8 rfl rfl; have x9 := O3.out.cell 1 9 rfl rfl; have y6 := O3.out.cell 0 6 rfl rfl; have y7 := O3.out.cell 0 7 rfl rfl; have y8 := O3.out.cell 0 8 rfl rfl; have y9 := O3.out.cell 0 9 rfl rfl
  go_wp2_with fail
  clear x6 x7 x8 x9 y6 y7 y8 y9
  obtain ⟨OL, hOL⟩ : ∃ OL : List (Nat × TypeId × List Value), OL = [(tb, 34, [.int .i64 co, .int .i64 ct, .int .i64 cr, .int .i64 ck, .int .i64 cm, .int .i64 cw, .slice ga f.length gc, .slice ea d.length ec, .slice ba A.length bc, .slice qa p.length qc]), (sb, 30, [.int .i64 co, .int .i64 ct, .int .i64 cr, .int .i64 ck, .int .i64 cm, .int .i64 cw, .slice fa f.length fc, .slice da d.length dc, .slice aa A.length ac, .slice pa p.length pc])] := ⟨_, rfl⟩
  rw [← hOL] at O3
  have HOL := Lib.hid hOL
  clear hOL
  go_loopw [5] (fun iv wr => ∃ k : Nat, k ≤ A.length ∧ iv = .int .i64 k ∧ Hid (Own w wr OL)) (fun iv _ => (A.length - intOf iv).toNat)
  case atStart => exact ⟨0, by omega, rfl, O3⟩
  case round =>
    clear O3
    obtain ⟨k, hk, rfl, O⟩ := hrel
    have O' := Lib.hid (HOL.out ▸ O.out)
    have x6 := O'.out.cell 1 6 rfl rfl; have x7 := O'.out.cell 1 7 rfl rfl; have x8 := O'.out.cell 1 8 rfl rfl; have x9 := O'.out.cell 1 9 rfl rfl
    have y6 := O'.out.cell 0 6 rfl rfl; have y7 := O'.out.cell 0 7 rfl rfl; have y8 := O'.out.cell 0 8 rfl rfl; have y9 := O'.out.cell 0 9 rfl rfl
    by_cases hlt : k < A.length
    · have hltI : (k : Int) < (A.length : Int) := by omega
      obtain ⟨t, ht⟩ : ∃ t, A[k]? = some t := ⟨_, List.getElem?_eq_getElem hlt⟩
      have hmem := List.mem_of_getElem? ht
      have ht4 := H4.out t hmem
      have HX := Lib.hid (H5.out t hmem)
      obtain ⟨b1, o1, v1, rfl, _, cx, a3, c3, rfl, T1⟩ := A1.out.at ht
      obtain ⟨b2, o2, v2, rfl, _, cy, a4, c4, rfl, T2⟩ := A2.out.at ht
      have CX0 := Lib.hid cx
      have CY0 := Lib.hid cy
      have cx := O.out.grow.cell cx (by simp)
      have cy := O.out.grow.cell cy (by simp)
      have Y1 := Lib.hid T1
      have Y2 := Lib.hid T2
      clear ht hmem T1 T2
      go_wp2_with fail
      go_quiet (fail)
      go_wp2_with fail
      clear cx cy
      clear x6 x7 x8 x9 y6 y7 y8 y9
      go_loopw [6] (fun jv wr2 => ∃ m : Nat, m ≤ t.length ∧ jv = .int .i64 m ∧ Hid (Own w wr2 OL)) (fun jv _ => (t.length - intOf jv).toNat)
      case atStart => exact ⟨0, by omega, rfl, by first | exact O.out.drewN _ | exact O.out.drew | exact O⟩
      case round =>
        clear O O'
        obtain ⟨m, hm, rfl, O⟩ := hrel
        have O' := Lib.hid (HOL.out ▸ O.out)
        have x6 := O'.out.cell 1 6 rfl rfl; have x7 := O'.out.cell 1 7 rfl rfl; have x8 := O'.out.cell 1 8 rfl rfl; have x9 := O'.out.cell 1 9 rfl rfl
        have y6 := O'.out.cell 0 6 rfl rfl; have y7 := O'.out.cell 0 7 rfl rfl; have y8 := O'.out.cell 0 8 rfl rfl; have y9 := O'.out.cell 0 9 rfl rfl
        have cx := O.out.grow.cell CX0.out (by simp)
        have cy := O.out.grow.cell CY0.out (by simp)
        clear x6 x7 x9 y6 y7 y9
        by_cases hmt : m < t.length
        · have hmtI : (m : Int) < (t.length : Int) := by omega
          obtain ⟨z, hz⟩ : ∃ z, t[m]? = some z := ⟨_, List.getElem?_eq_getElem hmt⟩
          have hz5 := HX.out z (List.mem_of_getElem? hz)
          obtain ⟨b3, o3, v3, rfl, _, ex, a5, c5, rfl, T1⟩ := Y1.out.at hz
          obtain ⟨b4, o4, v4, rfl, _, ey, a6, c6, rfl, T2⟩ := Y2.out.at hz
          have ex := O.out.grow.cell ex (by simp)
          have ey := O.out.grow.cell ey (by simp)
          have SC := Lib.hid (fun (u : World) (g : World.grownBy wr u none) => lg.same_true a5 a6 z.length c5 c6 (opZ z) u (T1.grown (gb_trans O.out.grow g)) (T2.grown (gb_trans O.out.grow g)) hz5)
          clear hz hz5 T1 T2
          go_upto_region 11 with fail
          go_region_held3 (fun w' => w'.cell? ⟨sb, 8, none⟩ = some (.slice (some ⟨b1, o1, none⟩) A.length ac) ∧ w'.cell? ⟨tb, 8, none⟩ = some (.slice (some ⟨b2, o2, none⟩) A.length bc) ∧ w'.cell? ⟨b1, o1 + k, none⟩ = some (.slice (some ⟨b3, o3, none⟩) t.length c3) ∧ w'.cell? ⟨b2, o2 + k, none⟩ = some (.slice (some ⟨b4, o4, none⟩) t.length c4) ∧ w'.cell? ⟨b3, o3 + m, none⟩ = some (.slice a5 z.length c5) ∧ w'.cell? ⟨b4, o4 + m, none⟩ = some (.slice a6 z.length c6)) (go_keep) ((go_at_call 25; refine (SC.out wr.drew (gb_drew (gb_refl _ _))).mono ?_; rintro r u ⟨rfl, g⟩; have G2 := Lib.hid (show World.grownBy wr u none from gb_trans (gb_drew (gb_refl wr none)) g.out); have x8 := G2.out.cell x8 (by simp); have y8 := G2.out.cell y8 (by simp); have cx := G2.out.cell cx (by simp); have cy := G2.out.cell cy (by simp); have ex := G2.out.cell ex (by simp); have ey := G2.out.cell ey (by simp)))
          have O2 := Lib.hid (O.out.grown G2.out)
          clear O O' G2
          go_wp2
          go_roundw
          case rel => exact ⟨m + 1, by omega, by go_num, by first | exact O2 | exact O2.out.drewN _ | exact O2.out.drew⟩
          case measure => simp [intOf]; omega
        · obtain rfl : m = t.length := by omega
          go_wp2
          go_roundw
          case rel => exact ⟨k + 1, by omega, by go_num, O⟩
          case measure => simp [intOf]; omega
    · obtain rfl : k = A.length := by omega
      go_wp2
      go_ret
      exact ⟨rfl, O.out.grow⟩
end Go.Proofs.Ytinmhefkmjlelaa.sc
