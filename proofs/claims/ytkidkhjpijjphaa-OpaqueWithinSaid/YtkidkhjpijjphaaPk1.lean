/- Texts of one's own, one behind the other: Open, Base, Grow, Map, MapG, Hm, Hr, Own, LangM, RdM, Hg, HgR, HgM, HgE, HgA, HgD, HgB, Ho, Hj, Hk, HmR. -/
import Derived.Test.YtkidkhjpijjphaaProg
import Derived.WalkKit
import Derived.ProofKit
import Derived.OpenShut
import Derived.ShutString
import Derived.ChangeOld
import Derived.Below
import Derived.Deep.Grids
import Derived.Handy
import Derived.Lib.Hide
import Derived.BigQuiet
import Derived.Deep.QuietTactic
import Derived.ArgAppend
import Derived.Deep.RegionLaw
import Derived.Maps.OwnSet
import Derived.Maps.OwnIn
import Derived.Maps.RangeWalk
import Derived.DeepKeys4
import Derived.WideKeyPair
import Derived.Deep.RegionHeld3
import Derived.Deep.RegionHeld
import Derived.Deep.AppendSrc
import Derived.Deep.Upon
import Derived.Deep.RegionHeldLaw
import Derived.Deep.CutRange
import Derived.Deep.DeepCutAuto
import Derived.StillTailTactics
/- What a walk is told of an argument that is a slice: of integers, of bools, of structs of integers. Plain facts on memory, of no program. -/
namespace Go.Proofs.Ytkidkhjpijjphaa.base
open Go Go.RowKit Go.ChangeShapes Go.WideShapes Go.Deep

/-- A slice of integers: z tells its elements. -/
def IsRow (k : IntKind) (w : World) (a : Option Addr) (len cap : Nat) (z : Nat → Int) : Prop :=
  len ≤ cap ∧ cap ≤ maxLen ∧ (len = 0 ∨ ∃ b off, a = some ⟨b, off, none⟩ ∧ b < w.heap.size ∧ ∀ i, i < len → w.cell? ⟨b, off + i, none⟩ = some (.int k (z i)) ∧ (Lit.int k (z i)).wf = true)

/-- A slice of bools. -/
def IsBools (w : World) (a : Option Addr) (len cap : Nat) (z : Nat → Bool) : Prop :=
  len ≤ cap ∧ cap ≤ maxLen ∧ (len = 0 ∨ ∃ b off, a = some ⟨b, off, none⟩ ∧ b < w.heap.size ∧ ∀ i, i < len → w.cell? ⟨b, off + i, none⟩ = some (.bool (z i)))

/-- A slice of structs of n numbers of kind int: z i j is the field j of element i. -/
def IsInts (n : Nat) (w : World) (a : Option Addr) (len cap : Nat) (z : Nat → Nat → Int) : Prop :=
  len ≤ cap ∧ cap ≤ maxLen ∧ (len = 0 ∨ ∃ b off, a = some ⟨b, off, none⟩ ∧ b < w.heap.size ∧ ∀ i j, i < len → j < n → w.cell? ⟨b, off + (i * n + j), none⟩ = some (.int .i64 (z i j)) ∧ (Lit.int .i64 (z i j)).wf = true)

theorem IsRow.below {k : IntKind} {w w' : World} {a : Option Addr} {len cap : Nat} {z : Nat → Int} (h : IsRow k w a len cap z) (g : Below w.heap.size w w') : IsRow k w' a len cap z := by
  obtain ⟨q1, q2, q3⟩ := h
  refine ⟨q1, q2, ?_⟩
  rcases q3 with q3 | ⟨b, off, rfl, hb, hc⟩
  · exact .inl q3
  · exact .inr ⟨b, off, rfl, Nat.lt_of_lt_of_le hb g.size, fun i hi => ⟨(g.cell (p := ⟨b, off + i, none⟩) hb).trans (hc i hi).1, (hc i hi).2⟩⟩

section
variable {H : Type} {enc : TypeId × Value → H} {P : Program} {w : World} {base : Nat} {held : Bool} {t e : TypeId} {fuel : Nat} {a : Option Addr} {len cap : Nat} {x : DataW H × List MemPlace}

theorem add_eq (b off i : Nat) : (⟨b, off, none⟩ : Addr).add i = ⟨b, off + i, none⟩ := by
  unfold Addr.add
  split
  · next h => subst h; rfl
  · rfl

theorem plain_of {c : Addr} {v : Value} (h : w.cell? c = some v) : ∃ b off, c = ⟨b, off, none⟩ := by
  obtain ⟨b, off, spot⟩ := c
  have hs : spot = none := World.cell?_spot h
  exact ⟨b, off, by rw [hs]⟩

theorem isRow_of {k : IntKind} (ht : P.underlying t = some (.slice e)) (he : P.underlying e = some (.int k)) (hc : P.cellsOf e = 1) (h : DataW.trod enc P w base (fun _ => true) held fuel t (Value.slice a len cap).cells.toList = some x) : ∃ z, IsRow k w a len cap z := by
  rcases open_ints ht he hc h with ⟨hcs, _⟩ | ⟨c, l, m, zs, hcs, _, hl, hm, hz, _, hcell, hwz⟩
  · simp [Value.cells] at hcs
    obtain ⟨rfl, rfl, rfl⟩ := hcs
    exact ⟨fun _ => 0, Nat.le_refl _, Nat.zero_le _, .inl rfl⟩
  · simp [Value.cells] at hcs
    obtain ⟨rfl, rfl, rfl⟩ := hcs
    simp only [if_true] at hz
    refine ⟨fun i => zs.getD i 0, hl, hm, ?_⟩
    by_cases h0 : len = 0
    · exact .inl h0
    · obtain ⟨b, off, rfl⟩ := plain_of (hcell 0 (by omega))
      have hb := World.block_lt_of_cell? _ _ (hcell 0 (by omega))
      refine .inr ⟨b, off, rfl, by simpa [Addr.add] using hb, fun i hi => ⟨by rw [← add_eq]; exact hcell i (by omega), hwz _ ?_⟩⟩
      simp only [List.getD]
      rw [List.getElem?_eq_getElem (by omega)]
      exact List.getElem_mem _

theorem isBools_of (ht : P.underlying t = some (.slice e)) (he : P.underlying e = some .bool) (hc : P.cellsOf e = 1) (h : DataW.trod enc P w base (fun _ => true) held fuel t (Value.slice a len cap).cells.toList = some x) : ∃ z, IsBools w a len cap z := by
  rcases open_bools ht he hc h with ⟨hcs, _⟩ | ⟨c, l, m, B, hcs, _, hl, hm, _, hcell⟩
  · simp [Value.cells] at hcs
    obtain ⟨rfl, rfl, rfl⟩ := hcs
    exact ⟨fun _ => false, Nat.le_refl _, Nat.zero_le _, .inl rfl⟩
  · simp [Value.cells] at hcs
    obtain ⟨rfl, rfl, rfl⟩ := hcs
    refine ⟨B, hl, hm, ?_⟩
    by_cases h0 : len = 0
    · exact .inl h0
    · obtain ⟨b, off, rfl⟩ := plain_of (hcell 0 (by omega))
      have hb := World.block_lt_of_cell? _ _ (hcell 0 (by omega))
      exact .inr ⟨b, off, rfl, by simpa [Addr.add] using hb, fun i hi => by rw [← add_eq]; exact hcell i (by omega)⟩

theorem isInts_of {fs : Array Field} {ti : TypeId} {n : Nat} (ht : P.underlying t = some (.slice e)) (he : P.underlying e = some (.struct fs)) (hi : P.underlying ti = some (.int .i64)) (hci : P.cellsOf ti = 1) (hc : P.cellsOf e = n) (hn : 0 < n) (hfs : ∀ j, j < n → (fs[j]?.map fun f => (f.offset, f.type)) = some (j, ti))
    (h : DataW.trod enc P w base (fun _ => true) held fuel t (Value.slice a len cap).cells.toList = some x) : ∃ z, IsInts n w a len cap z := by
  rcases open_slice ht h with ⟨hcs, _⟩ | ⟨c, l, m, k, f, D, Pl, hcs, _, hl, hm, hk, _, hel⟩
  · simp [Value.cells] at hcs
    obtain ⟨rfl, rfl, rfl⟩ := hcs
    exact ⟨fun _ _ => 0, Nat.le_refl _, Nat.zero_le _, .inl rfl⟩
  · simp [Value.cells] at hcs
    obtain ⟨rfl, rfl, rfl⟩ := hcs
    simp only [if_true] at hk
    subst hk
    rw [hc] at hel
    have each : ∀ i, i < len → ∃ g : Nat → Int, ∀ j, j < n → w.cell? (c.add (i * n + j)) = some (.int .i64 (g j)) ∧ (Lit.int .i64 (g j)).wf = true := by
      intro i hi'
      obtain ⟨cs', h1, h2⟩ := hel i (by omega)
      obtain ⟨_, hlen, hcell⟩ := World.cells?_some h1
      obtain ⟨xs, n', _, _, hl1, _, hf⟩ := DataW.trod_struct he h2
      obtain ⟨g, hg⟩ := choose_lt (α := Int) (n := n) (p := fun j v => cs'[j]? = some (.int .i64 v) ∧ (Lit.int .i64 v).wf = true) (fun j hj => by
        have e1 := hfs j hj
        obtain ⟨fj, hfj, e2⟩ := Option.map_eq_some_iff.1 e1
        simp only [Prod.mk.injEq] at e2
        have e3 := hf j fj hfj
        rw [e2.1, e2.2, hci] at e3
        have hxs : j < xs.length := by
          rcases Nat.lt_or_ge j xs.length with h' | h'
          · exact h'
          · rename_i hsz
            have := (Array.getElem?_eq_some_iff.1 hfj).1
            omega
        rw [List.getElem?_eq_getElem hxs] at e3
        obtain ⟨v, hv, _, hw⟩ := DataW.trod_int hi e3
        refine ⟨v, ?_, hw⟩
        have : (cs'.drop j).take 1 = [.int .i64 v] := by simpa using hv
        have h0 : ((cs'.drop j).take 1)[0]? = some (.int .i64 v) := by rw [this]; rfl
        simpa using h0)
      refine ⟨g, fun j hj => ⟨?_, (hg j hj).2⟩⟩
      rw [← add_add, hcell j hj]
      exact (hg j hj).1
    obtain ⟨z, hz⟩ := choose_lt (α := Nat → Int) each
    refine ⟨z, hl, hm, ?_⟩
    by_cases h0 : len = 0
    · exact .inl h0
    · obtain ⟨b, off, hbo⟩ := plain_of (hz 0 (by omega) 0 (by omega)).1
      have hb := World.block_lt_of_cell? _ _ (hz 0 (by omega) 0 (by omega)).1
      have hc0 : c = ⟨b, off, none⟩ := by simpa [Addr.add] using hbo
      subst hc0
      refine .inr ⟨b, off, rfl, by simpa [Addr.add] using hb, fun i j hi hj => ⟨by rw [← add_eq]; exact (hz i hi j hj).1, (hz i hi j hj).2⟩⟩

/-- .. of structs whose fields are of two integer types (int and int64, say). -/
theorem isMixed_of {fs : Array Field} {t1 t2 : TypeId} {n : Nat} (ht : P.underlying t = some (.slice e)) (he : P.underlying e = some (.struct fs)) (hi1 : P.underlying t1 = some (.int .i64)) (hi2 : P.underlying t2 = some (.int .i64)) (hc1 : P.cellsOf t1 = 1) (hc2 : P.cellsOf t2 = 1) (hc : P.cellsOf e = n) (hn : 0 < n) (hfs : ∀ j, j < n → (fs[j]?.map fun f => (f.offset, f.type)) = some (j, t1) ∨ (fs[j]?.map fun f => (f.offset, f.type)) = some (j, t2))
    (h : DataW.trod enc P w base (fun _ => true) held fuel t (Value.slice a len cap).cells.toList = some x) : ∃ z, IsInts n w a len cap z := by
  rcases open_slice ht h with ⟨hcs, _⟩ | ⟨c, l, m, k, f, D, Pl, hcs, _, hl, hm, hk, _, hel⟩
  · simp [Value.cells] at hcs
    obtain ⟨rfl, rfl, rfl⟩ := hcs
    exact ⟨fun _ _ => 0, Nat.le_refl _, Nat.zero_le _, .inl rfl⟩
  · simp [Value.cells] at hcs
    obtain ⟨rfl, rfl, rfl⟩ := hcs
    simp only [if_true] at hk
    subst hk
    rw [hc] at hel
    have each : ∀ i, i < len → ∃ g : Nat → Int, ∀ j, j < n → w.cell? (c.add (i * n + j)) = some (.int .i64 (g j)) ∧ (Lit.int .i64 (g j)).wf = true := by
      intro i hi'
      obtain ⟨cs', h1, h2⟩ := hel i (by omega)
      obtain ⟨_, hlen, hcell⟩ := World.cells?_some h1
      obtain ⟨xs, n', _, _, hl1, _, hf⟩ := DataW.trod_struct he h2
      obtain ⟨g, hg⟩ := choose_lt (α := Int) (n := n) (p := fun j v => cs'[j]? = some (.int .i64 v) ∧ (Lit.int .i64 v).wf = true) (fun j hj => by
        obtain ⟨ti, e1, hi, hci⟩ : ∃ ti, (fs[j]?.map fun f => (f.offset, f.type)) = some (j, ti) ∧ P.underlying ti = some (.int .i64) ∧ P.cellsOf ti = 1 := by
          rcases hfs j hj with e | e
          · exact ⟨_, e, hi1, hc1⟩
          · exact ⟨_, e, hi2, hc2⟩
        obtain ⟨fj, hfj, e2⟩ := Option.map_eq_some_iff.1 e1
        simp only [Prod.mk.injEq] at e2
        have e3 := hf j fj hfj
        rw [e2.1, e2.2, hci] at e3
        have hxs : j < xs.length := by
          rcases Nat.lt_or_ge j xs.length with h' | h'
          · exact h'
          · rename_i hsz
            have := (Array.getElem?_eq_some_iff.1 hfj).1
            omega
        rw [List.getElem?_eq_getElem hxs] at e3
        obtain ⟨v, hv, _, hw⟩ := DataW.trod_int hi e3
        refine ⟨v, ?_, hw⟩
        have : (cs'.drop j).take 1 = [.int .i64 v] := by simpa using hv
        have h0 : ((cs'.drop j).take 1)[0]? = some (.int .i64 v) := by rw [this]; rfl
        simpa using h0)
      refine ⟨g, fun j hj => ⟨?_, (hg j hj).2⟩⟩
      rw [← add_add, hcell j hj]
      exact (hg j hj).1
    obtain ⟨z, hz⟩ := choose_lt (α := Nat → Int) each
    refine ⟨z, hl, hm, ?_⟩
    by_cases h0 : len = 0
    · exact .inl h0
    · obtain ⟨b, off, hbo⟩ := plain_of (hz 0 (by omega) 0 (by omega)).1
      have hb := World.block_lt_of_cell? _ _ (hz 0 (by omega) 0 (by omega)).1
      have hc0 : c = ⟨b, off, none⟩ := by simpa [Addr.add] using hbo
      subst hc0
      refine .inr ⟨b, off, rfl, by simpa [Addr.add] using hb, fun i j hi hj => ⟨by rw [← add_eq]; exact (hz i hi j hj).1, (hz i hi j hj).2⟩⟩

/-- A struct by value, of n numbers of two integer types. -/
theorem isAgg_of {fs : Array Field} {t1 t2 : TypeId} {n : Nat} {cs : Array Value} (he : P.underlying t = some (.struct fs)) (hi1 : P.underlying t1 = some (.int .i64)) (hi2 : P.underlying t2 = some (.int .i64)) (hc1 : P.cellsOf t1 = 1) (hc2 : P.cellsOf t2 = 1) (hsz : cs.size = n)
    (hfs : ∀ j, j < n → (fs[j]?.map fun f => (f.offset, f.type)) = some (j, t1) ∨ (fs[j]?.map fun f => (f.offset, f.type)) = some (j, t2))
    (h : DataW.trod enc P w base (fun _ => true) held fuel t (Value.agg cs).cells.toList = some x) : ∃ z : Nat → Int, (∀ j, j < n → (Lit.int .i64 (z j)).wf = true) ∧ cs = ⟨(List.range n).map fun j => .int .i64 (z j)⟩ := by
  obtain ⟨xs, n', _, _, hl1, _, hf⟩ := DataW.trod_struct he h
  obtain ⟨g, hg⟩ := choose_lt (α := Int) (n := n) (p := fun j v => cs.toList[j]? = some (.int .i64 v) ∧ (Lit.int .i64 v).wf = true) (fun j hj => by
    obtain ⟨ti, e1, hi, hci⟩ : ∃ ti, (fs[j]?.map fun f => (f.offset, f.type)) = some (j, ti) ∧ P.underlying ti = some (.int .i64) ∧ P.cellsOf ti = 1 := by
      rcases hfs j hj with e | e
      · exact ⟨_, e, hi1, hc1⟩
      · exact ⟨_, e, hi2, hc2⟩
    obtain ⟨fj, hfj, e2⟩ := Option.map_eq_some_iff.1 e1
    simp only [Prod.mk.injEq] at e2
    have e3 := hf j fj hfj
    rw [e2.1, e2.2, hci] at e3
    have hxs : j < xs.length := by
      rcases Nat.lt_or_ge j xs.length with h' | h'
      · exact h'
      · have := (Array.getElem?_eq_some_iff.1 hfj).1
        omega
    rw [List.getElem?_eq_getElem hxs] at e3
    obtain ⟨v, hv, _, hw⟩ := DataW.trod_int hi e3
    refine ⟨v, ?_, hw⟩
    have : ((Value.agg cs).cells.toList.drop j).take 1 = [.int .i64 v] := by simpa using hv
    have h0 : (((Value.agg cs).cells.toList.drop j).take 1)[0]? = some (.int .i64 v) := by rw [this]; rfl
    simpa [Value.cells] using h0)
  refine ⟨g, fun j hj => (hg j hj).2, ?_⟩
  apply Array.ext'
  apply List.ext_getElem?
  intro j
  by_cases hj : j < n
  · rw [(hg j hj).1]
    simp [hj]
  · rw [List.getElem?_eq_none (by simpa [hsz] using hj), List.getElem?_eq_none (by simpa using hj)]

/-- A slice of arrays of n numbers. -/
theorem isArrs_of {ti : TypeId} {n : Nat} (ht : P.underlying t = some (.slice e)) (he : P.underlying e = some (.array n ti)) (hi : P.underlying ti = some (.int .i64)) (hci : P.cellsOf ti = 1) (hc : P.cellsOf e = n) (hn : 0 < n)
    (h : DataW.trod enc P w base (fun _ => true) held fuel t (Value.slice a len cap).cells.toList = some x) : ∃ z, IsInts n w a len cap z := by
  rcases open_slice ht h with ⟨hcs, _⟩ | ⟨c, l, m, k, f, D, Pl, hcs, _, hl, hm, hk, _, hel⟩
  · simp [Value.cells] at hcs
    obtain ⟨rfl, rfl, rfl⟩ := hcs
    exact ⟨fun _ _ => 0, Nat.le_refl _, Nat.zero_le _, .inl rfl⟩
  · simp [Value.cells] at hcs
    obtain ⟨rfl, rfl, rfl⟩ := hcs
    simp only [if_true] at hk
    subst hk
    rw [hc] at hel
    have each : ∀ i, i < len → ∃ g : Nat → Int, ∀ j, j < n → w.cell? (c.add (i * n + j)) = some (.int .i64 (g j)) ∧ (Lit.int .i64 (g j)).wf = true := by
      intro i hi'
      obtain ⟨cs', h1, h2⟩ := hel i (by omega)
      obtain ⟨_, hlen, hcell⟩ := World.cells?_some h1
      obtain ⟨xs, n', _, _, _, hl1, hf⟩ := DataW.trod_array he h2
      obtain ⟨g, hg⟩ := choose_lt (α := Int) (n := n) (p := fun j v => cs'[j]? = some (.int .i64 v) ∧ (Lit.int .i64 v).wf = true) (fun j hj => by
        have e3 := hf j hj
        rw [hci] at e3
        rw [List.getElem?_eq_getElem (by omega)] at e3
        obtain ⟨v, hv, _, hw⟩ := DataW.trod_int hi e3
        refine ⟨v, ?_, hw⟩
        have : (cs'.drop j).take 1 = [.int .i64 v] := by simpa using hv
        have h0 : ((cs'.drop j).take 1)[0]? = some (.int .i64 v) := by rw [this]; rfl
        simpa using h0)
      refine ⟨g, fun j hj => ⟨?_, (hg j hj).2⟩⟩
      rw [← add_add, hcell j hj]
      exact (hg j hj).1
    obtain ⟨z, hz⟩ := choose_lt (α := Nat → Int) each
    refine ⟨z, hl, hm, ?_⟩
    by_cases h0 : len = 0
    · exact .inl h0
    · obtain ⟨b, off, hbo⟩ := plain_of (hz 0 (by omega) 0 (by omega)).1
      have hb := World.block_lt_of_cell? _ _ (hz 0 (by omega) 0 (by omega)).1
      have hc0 : c = ⟨b, off, none⟩ := by simpa [Addr.add] using hbo
      subst hc0
      refine .inr ⟨b, off, rfl, by simpa [Addr.add] using hb, fun i j hi hj => ⟨by rw [← add_eq]; exact (hz i hi j hj).1, (hz i hi j hj).2⟩⟩
end
end Go.Proofs.Ytkidkhjpijjphaa.base

/- Plain facts on memory, of no program: a block of two cells that a call writes, and that nothing else turns; 'grownBy' handed on step by step. -/
namespace Go.Proofs.Ytkidkhjpijjphaa.base
open Go Go.RowKit

/-- What grew by new blocks alone is as it was below them. -/
theorem gb_below {a w : World} (h : a.grownBy w none) : Below a.heap.size a w := ⟨h.os, h.tape, h.output, h.size, fun k hk => h.block k hk (by simp)⟩
theorem gb_refl (w : World) (r : Option Nat) : w.grownBy w r := ⟨rfl, rfl, rfl, Nat.le_refl _, fun _ _ _ => rfl⟩
theorem gb_trans {a b c : World} {r : Option Nat} (h : a.grownBy b r) (k : b.grownBy c r) : a.grownBy c r :=
  ⟨k.os.trans h.os, k.tape.trans h.tape, k.output.trans h.output, Nat.le_trans h.size k.size, fun i hi hn => (k.block i (Nat.lt_of_lt_of_le hi h.size) hn).trans (h.block i hi hn)⟩
theorem gb_drew {a w : World} {r : Option Nat} (h : a.grownBy w r) : a.grownBy w.drew r := ⟨h.os, h.tape, h.output, h.size, h.block⟩
theorem gb_drewN {a w : World} {r : Option Nat} (h : a.grownBy w r) (n : Nat) : a.grownBy (w.drewN n) r := ⟨h.os, h.tape, h.output, h.size, h.block⟩
theorem gb_alloc {a w : World} {r : Option Nat} (h : a.grownBy w r) (o : Obj) : a.grownBy (w.alloc o) r :=
  gb_trans h (World.grownBy_alloc w o r)
theorem gb_setCell {a w : World} {r : Option Nat} (h : a.grownBy w r) {p : Addr} (hp : some p.block = r) (u : Value) : a.grownBy (w.setCell p u) r :=
  gb_trans h ⟨rfl, rfl, rfl, by simp [World.setCell], fun k _ hn => Below.heap_setCell _ _ _ _ (fun e => hn (by rw [e]; exact hp))⟩
theorem gb_setB {a w : World} {b i : Nat} (h : a.grownBy w (some b)) (u : Value) : a.grownBy (w.setCell ⟨b, i, none⟩ u) (some b) := gb_setCell h rfl u
theorem gb_setNew {a w : World} {r : Option Nat} (h : a.grownBy w r) {p : Addr} (hp : a.heap.size ≤ p.block) (u : Value) : a.grownBy (w.setCell p u) r :=
  ⟨h.os, h.tape, h.output, by have := h.size; simpa [World.setCell] using this, fun k hk hn => (Below.heap_setCell _ _ _ _ (by omega)).trans (h.block k hk hn)⟩

/-- A cell elsewhere, that may be written, stays both. -/
theorem gb_cellF {w w' : World} {r : Option Nat} {p : Addr} {v : Value} (g : w.grownBy w' r) (hc : w.cell? p = some v) (hf : w.frozen? p = false) (hr : some p.block ≠ r) : w'.cell? p = some v ∧ w'.frozen? p = false := by
  have e := g.block p.block (World.block_lt_of_cell? w p hc) hr
  refine ⟨(World.cell?_of_block e).trans hc, ?_⟩
  unfold World.frozen? at hf ⊢
  rw [e]
  exact hf

/-- A step that writes a block that is new changes nothing that was there. -/
theorem gb_new {a b c : World} (h : a.grownBy b none) (k : b.grownBy c (some a.heap.size)) : a.grownBy c none :=
  ⟨k.os.trans h.os, k.tape.trans h.tape, k.output.trans h.output, Nat.le_trans h.size k.size, fun i hi hn => (k.block i (Nat.lt_of_lt_of_le hi h.size) (by simp; omega)).trans (h.block i hi hn)⟩

theorem gb_over {a b c : World} {i : Nat} (h : a.grownBy b none) (k : b.grownBy c (some i)) (hi : a.heap.size ≤ i) : a.grownBy c none :=
  ⟨k.os.trans h.os, k.tape.trans h.tape, k.output.trans h.output, Nat.le_trans h.size k.size, fun j hj hn => (k.block j (Nat.lt_of_lt_of_le hj h.size) (by simp; omega)).trans (h.block j hj hn)⟩

theorem gb_overO {a b c : World} {r : Option Nat} (h : a.grownBy b none) (k : b.grownBy c r) (hi : ∀ i, r = some i → a.heap.size ≤ i) : a.grownBy c none :=
  ⟨k.os.trans h.os, k.tape.trans h.tape, k.output.trans h.output, Nat.le_trans h.size k.size, fun j hj hn => (k.block j (Nat.lt_of_lt_of_le hj h.size) (fun e => by have := hi j e.symm; omega)).trans (h.block j hj hn)⟩

/-- Steps of a call: what was there when it began stays as it was. -/
theorem bl_own {a w w' : World} {b : Nat} (h : Below a.heap.size a w) (g : w.grownBy w' (some b)) (hb : a.heap.size ≤ b) : Below a.heap.size a w' :=
  h.grown g h.size (fun k hk => by cases hk; exact hb)
theorem bl_none {a w w' : World} (h : Below a.heap.size a w) (g : w.grownBy w' none) : Below a.heap.size a w' :=
  h.grown g h.size (fun k hk => by cases hk)

theorem bl_weak {B B' : Nat} {a w : World} (h : Below B a w) (hb : B' ≤ B) : Below B' a w := ⟨h.os, h.tape, h.output, h.size, fun k hk => h.block k (by omega)⟩

/-- Block b has two cells, both numbers of kind int, and may be written. -/
def Two (t : TypeId) (w : World) (b : Nat) (n a : Int) : Prop := w.heap[b]? = some (.cells #[.int .i64 n, .int .i64 a] t (0, 0))

section
variable {t : TypeId} {w w' : World} {b : Nat} {n a : Int}
theorem Two.lt (h : Two t w b n a) : b < w.heap.size := (Array.getElem?_eq_some_iff.1 h).1
theorem Two.c0 (h : Two t w b n a) : w.cell? ⟨b, 0, none⟩ = some (.int .i64 n) := by unfold Two at h; simp [World.cell?, h]
theorem Two.c1 (h : Two t w b n a) : w.cell? ⟨b, 1, none⟩ = some (.int .i64 a) := by unfold Two at h; simp [World.cell?, h]
theorem Two.f0 (h : Two t w b n a) : w.frozen? ⟨b, 0, none⟩ = false := by unfold Two at h; simp [World.frozen?, h]
theorem Two.f1 (h : Two t w b n a) : w.frozen? ⟨b, 1, none⟩ = false := by unfold Two at h; simp [World.frozen?, h]
theorem Two.set0 (h : Two t w b n a) (m : Int) : Two t (w.setCell ⟨b, 0, none⟩ (.int .i64 m)) b m a := by
  have hl := h.lt
  unfold Two at h ⊢
  have h' : w.heap[b] = .cells #[.int .i64 n, .int .i64 a] t (0, 0) := by simpa [Array.getElem?_eq_getElem hl] using h
  show (w.heap.modify b _)[b]? = _
  rw [Array.getElem?_eq_getElem (by simpa using hl), Array.getElem_modify_self, h']
  rfl
theorem Two.set1 (h : Two t w b n a) (m : Int) : Two t (w.setCell ⟨b, 1, none⟩ (.int .i64 m)) b n m := by
  have hl := h.lt
  unfold Two at h ⊢
  have h' : w.heap[b] = .cells #[.int .i64 n, .int .i64 a] t (0, 0) := by simpa [Array.getElem?_eq_getElem hl] using h
  show (w.heap.modify b _)[b]? = _
  rw [Array.getElem?_eq_getElem (by simpa using hl), Array.getElem_modify_self, h']
  rfl
theorem Two.alloc (h : Two t w b n a) (o : Obj) : Two t (w.alloc o) b n a := (Below.heap_alloc w o b h.lt).trans h
theorem Two.setOther (h : Two t w b n a) {p : Addr} (hp : b ≠ p.block) (u : Value) : Two t (w.setCell p u) b n a := (Below.heap_setCell w p u b hp).trans h
theorem Two.drew (h : Two t w b n a) : Two t w.drew b n a := h
theorem Two.drewN (h : Two t w b n a) (k : Nat) : Two t (w.drewN k) b n a := h
theorem Two.grown (h : Two t w b n a) {r : Option Nat} (hg : w.grownBy w' r) (hr : some b ≠ r) : Two t w' b n a := (hg.block b h.lt hr).trans h
theorem Two.below (h : Two t w b n a) {B : Nat} (hg : Below B w w') (hr : b < B) : Two t w' b n a := (hg.block b hr).trans h
theorem Two.made (w : World) (t : TypeId) (n a : Int) : Two t (w.alloc (.cells #[.int .i64 n, .int .i64 a] t)) w.heap.size n a := heap_alloc_new w _
end
/-- Only blocks of S, and new ones, were written. -/
structure Only (S : Nat → Prop) (w w' : World) : Prop where
  os : w'.os = w.os
  tape : w'.tape = w.tape
  output : w'.output = w.output
  size : w.heap.size ≤ w'.heap.size
  block : ∀ k, k < w.heap.size → ¬ S k → w'.heap[k]? = w.heap[k]?

section
variable {S S' : Nat → Prop} {w w' w'' : World}
theorem Only.refl (S : Nat → Prop) (w : World) : Only S w w := ⟨rfl, rfl, rfl, Nat.le_refl _, fun _ _ _ => rfl⟩
theorem Only.trans (h : Only S w w') (k : Only S w' w'') : Only S w w'' :=
  ⟨k.os.trans h.os, k.tape.trans h.tape, k.output.trans h.output, Nat.le_trans h.size k.size, fun i hi hn => (k.block i (Nat.lt_of_lt_of_le hi h.size) hn).trans (h.block i hi hn)⟩
theorem Only.mono (h : Only S w w') (hs : ∀ k, k < w.heap.size → S k → S' k) : Only S' w w' := ⟨h.os, h.tape, h.output, h.size, fun i hi hn => h.block i hi (fun e => hn (hs i hi e))⟩
theorem Only.of {r : Option Nat} (h : w.grownBy w' r) (hs : ∀ k, r = some k → k < w.heap.size → S k) : Only S w w' := ⟨h.os, h.tape, h.output, h.size, fun i hi hn => h.block i hi (fun e => hn (hs i e.symm hi))⟩
theorem Only.none (h : w.grownBy w' none) : Only S w w' := Only.of h (fun _ e => by cases e)
theorem Only.below {B : Nat} {w0 : World} (h : Only S w w') (k : Below B w0 w) (hb : B ≤ w.heap.size) (hs : ∀ i, S i → B ≤ i) : Below B w0 w' :=
  k.trans ⟨h.os, h.tape, h.output, h.size, fun i hi => h.block i (by omega) (fun e => by have := hs i e; omega)⟩
theorem Two.only {t : TypeId} {b : Nat} {n a : Int} (h : Two t w b n a) (g : Only S w w') (hb : ¬ S b) : Two t w' b n a := (g.block b h.lt hb).trans h
end

/-- What lies in the blocks of F was changed, and new blocks were made; what is now in those of F'. -/
structure Step (F F' : Nat → Prop) (w w' : World) : Prop where
  only : Only F w w'
  foot : ∀ k, F' k → F k ∨ w.heap.size ≤ k

section
variable {F F' F'' G : Nat → Prop} {w w' w'' : World}
theorem Step.refl (F : Nat → Prop) (w : World) : Step F F w w := ⟨Only.refl _ _, fun _ h => .inl h⟩
theorem Step.none (h : w.grownBy w' none) : Step F F w w' := ⟨Only.none h, fun _ h => .inl h⟩
theorem Step.trans (h : Step F F' w w') (k : Step F' F'' w' w'') : Step F F'' w w'' := by
  refine ⟨⟨k.only.os.trans h.only.os, k.only.tape.trans h.only.tape, k.only.output.trans h.only.output, Nat.le_trans h.only.size k.only.size, fun i hi hn => ?_⟩, fun i hi => ?_⟩
  · have h1 := h.only.block i hi hn
    have h2 := k.only.block i (Nat.lt_of_lt_of_le hi h.only.size) (fun e => by
      rcases h.foot i e with h3 | h3
      · exact hn h3
      · omega)
    exact h2.trans h1
  · have := h.only.size
    rcases k.foot i hi with h1 | h1
    · rcases h.foot i h1 with h2 | h2
      · exact .inl h2
      · exact .inr h2
    · exact .inr (by omega)
theorem Step.of {r : Option Nat} (h : w.grownBy w' r) (hr : ∀ k, r = some k → F k) : Step F F w w' := ⟨Only.of h (fun k e _ => hr k e), fun _ h => .inl h⟩
theorem Step.low {B : Nat} {w0 : World} (h : Step F F' w w') (k : Below B w0 w) (hb : B ≤ w.heap.size) (hs : ∀ i, F i → B ≤ i) : Below B w0 w' := h.only.below k hb hs

/-- Two that have no block in common. -/
def Sep (F G : Nat → Prop) : Prop := ∀ k, F k → ¬ G k
theorem Sep.symm (h : Sep F G) : Sep G F := fun k hg hf => h k hf hg
theorem Sep.step (h : Sep F G) (s : Step F F' w w') (hg : ∀ k, G k → k < w.heap.size) : Sep F' G := fun k hf' hg' => by
  rcases s.foot k hf' with hf | hl
  · exact h k hf hg'
  · have := hg k hg'; omega
theorem Sep.new (hf : ∀ k, F k → w.heap.size ≤ k) (hg : ∀ k, G k → k < w.heap.size) : Sep F G := fun k h1 h2 => by have := hf k h1; have := hg k h2; omega
end
end Go.Proofs.Ytkidkhjpijjphaa.base

/- A struct of a slice and a number, behind a pointer, whose slice is appended to: plain facts on memory, of no program. -/
namespace Go.Proofs.Ytkidkhjpijjphaa.base
open Go Go.RowKit

section
variable {P : Program}

/-- append of something onto a slice of one's own: the row is the old one, or in a new block. -/
theorem run_append_at (w : World) (base : Nat) (t ty e : TypeId) (i : TypeInfo) (z : Value) (size bytes : Nat) (ht : P.underlying t = some (.slice e)) (hi : P.info? e = some i) (hz : i.zero = some z)
    (hsize : i.size = size) (hby : i.bytes = bytes) (hzs : z.cells.size = size) (hsz : 0 < size)
    (v : Value) (n : Nat) (xs : List Value) (hown : w.ownsRow base e size v n xs)
    (a : Addr) (m c : Nat) (news : List Value) (hl : news.length = m * size) (hnews : ∀ j u, news[j]? = some u → w.cell? (a.add j) = some u) (h1 : ∀ u ∈ news, u.oneCell' = true)
    (h63 : n + m ≤ maxLen) (hbytes : (n + m) * bytes ≤ 140737488355328) (hbase : base ≤ w.heap.size) :
    ∃ v' w', (Builtin.append_ #[t, t] ty #[v, .slice (some a) m c]).run P w = .ok v' w' ∧ w'.ownsRow base e size v' (n + m) (xs ++ news) ∧ w.grownBy w' v.ownBlock ∧
      (v'.ownBlock = v.ownBlock ∨ ∃ k, v'.ownBlock = some k ∧ w.heap.size ≤ k) := by
  obtain ⟨v', w', hr, ho, hg, _⟩ := run_append_own (P := P) w base t ty e i z size bytes ht hi hz hsize hby hzs hsz v n xs hown a m c news hl hnews h1 h63 hbytes hbase
  refine ⟨v', w', hr, ho, hg, ?_⟩
  have fresh : ∀ v2 w2, (Builtin.append_ #[t, t] ty #[v, .slice (some a) m c]).run P w = .ok v2 w2 → w2.ownsRow w.heap.size e size v2 (n + m) (xs ++ news) → v'.ownBlock = none ∨ ∃ k, v'.ownBlock = some k ∧ w.heap.size ≤ k := by
    intro v2 w2 h2 o2
    rw [hr] at h2
    obtain ⟨rfl, rfl⟩ : v' = v2 ∧ w' = w2 := by injection h2 with h3 h4; exact ⟨h3, h4⟩
    cases hv : v'.ownBlock with
    | none => exact .inl rfl
    | some k => exact .inr ⟨k, rfl, (o2.lt k hv).1⟩
  rcases hown.2 with ⟨rfl, rfl⟩ | ⟨g, cap, cur, rfl, hbg, hgg, hnc, hcm, hcs, htake⟩
  · have hx : xs = [] := List.eq_nil_of_length_eq_zero (by simpa using hown.1)
    subst hx
    obtain ⟨v2, w2, h2, o2, _⟩ := run_append_own (P := P) w w.heap.size t ty e i z size bytes ht hi hz hsize hby hzs hsz (.slice none 0 0) 0 [] (World.ownsRow_nil w _ e size) a m c news hl hnews h1 h63 hbytes (Nat.le_refl _)
    rcases fresh v2 w2 h2 o2 with h | h
    · exact .inl h
    · exact .inr h
  · by_cases hroom : n + m ≤ cap
    · subst hsize
      have hfit : n * i.size + news.length ≤ cur.size := by rw [hl, hcs, ← Nat.add_mul]; exact Nat.mul_le_mul_right _ hroom
      have h2 := run_append_room (P := P) w t ty e i ht hi g n cap cur hgg a m c news hl hnews h1 hroom hfit
      rw [hr] at h2
      injection h2 with h3 h4
      exact .inl (by rw [h3]; rfl)
    · have holds : ∀ j u, xs[j]? = some u → w.cell? ((⟨g, 0, none⟩ : Addr).add j) = some u := hown.cells (g := g) rfl
      obtain ⟨v2, w2, h2, o2, _⟩ := run_append_arg_grows (P := P) w t ty e i z size bytes ht hi hz hsize hby hzs hsz ⟨g, 0, none⟩ n cap xs hown.1 holds a m c news hl hnews (by omega) h63 hbytes
      rcases fresh v2 w2 h2 o2 with h | h
      · exfalso
        rcases o2.2 with ⟨rfl, h0⟩ | ⟨g2, cap2, cur2, rfl, _⟩
        · omega
        · rw [hr] at h2
          injection h2 with h3 h4
          rw [h3] at h
          simp [Value.ownBlock] at h
      · exact .inr h

theorem wpList_append_at (w : World) {ops : Array Oper} {rest : List Oper} {o : Oper} {a : Act} {Q : Exit → Act → World → Prop}
    (hgd : o.guard = none) (s x : Operand) (t : TypeId) (hop : o.op = Op.call { callee := Callee.builtin Builtin.append, args := #[s, x], argTypes := #[t, t] })
    (base : Nat) (e : TypeId) (i : TypeInfo) (z : Value) (size bytes : Nat) (h1 : P.underlying t = some (.slice e)) (h2 : P.info? e = some i) (h3 : i.zero = some z) (h4 : i.size = size) (h5 : i.bytes = bytes) (h6 : z.cells.size = size) (h7 : 0 < size)
    (v : Value) (n : Nat) (xs : List Value) (hs : a.eval s = v) (hown : w.ownsRow base e size v n xs)
    (ad : Addr) (m c : Nat) (news : List Value) (hx : a.eval x = .slice (some ad) m c) (hl : news.length = m * size) (hnews : ∀ j u, news[j]? = some u → w.cell? (ad.add j) = some u) (h1c : ∀ u ∈ news, u.oneCell' = true)
    (h63 : n + m ≤ maxLen) (hbytes : (n + m) * bytes ≤ 140737488355328) (hbase : base ≤ w.heap.size) (hm : 0 < m)
    (hK : ∀ g cap w', w'.ownsRow base e size (.slice (some ⟨g, 0, none⟩) (n + m) cap) (n + m) (xs ++ news) → w.grownBy w' v.ownBlock → (some g = v.ownBlock ∨ w.heap.size ≤ g) → wpList P ops Q rest (a.put o.dst (.slice (some ⟨g, 0, none⟩) (n + m) cap)) w') :
    wpList P ops Q (o :: rest) a w := by
  refine wpList_plain hgd fun K hK' => ?_
  obtain ⟨v', w', hrun, r1, r2, r3⟩ := run_append_at (P := P) w base t o.type e i z size bytes h1 h2 h3 h4 h5 h6 h7 v n xs hown ad m c news hl hnews h1c h63 hbytes hbase
  have r0 := r1
  rcases r0.2 with ⟨_, h0⟩ | ⟨g, cap, _, rfl, _⟩
  · omega
  unfold Oper.wp
  simp [execOp, hop, resolve, invoke, builtin, hs, hx, hrun, Result.andThen]
  exact hK' _ _ (hK g cap w' r1 r2 (by
    rcases r3 with h | ⟨k, h, hk⟩
    · exact .inl h
    · cases h; exact .inr hk))

/-- The same as one step of a region that draws its order. -/
theorem step_append_at {ops : Array Oper} {o : Oper} {a : Act} {w : World} {K : Act → World → Prop} {Q : Exit → Act → World → Prop} {E : Prop}
    (hg : o.guard = none) (s x : Operand) (t : TypeId) (hop : o.op = Op.call { callee := Callee.builtin Builtin.append, args := #[s, x], argTypes := #[t, t] })
    (base : Nat) (e : TypeId) (i : TypeInfo) (z : Value) (size bytes : Nat) (h1 : P.underlying t = some (.slice e)) (h2 : P.info? e = some i) (h3 : i.zero = some z) (h4 : i.size = size) (h5 : i.bytes = bytes) (h6 : z.cells.size = size) (h7 : 0 < size)
    (v : Value) (n : Nat) (xs : List Value) (hs : a.eval s = v) (hown : w.ownsRow base e size v n xs)
    (ad : Addr) (m c : Nat) (news : List Value) (hx : a.eval x = .slice (some ad) m c) (hl : news.length = m * size) (hnews : ∀ j u, news[j]? = some u → w.cell? (ad.add j) = some u) (h1c : ∀ u ∈ news, u.oneCell' = true)
    (h63 : n + m ≤ maxLen) (hbytes : (n + m) * bytes ≤ 140737488355328) (hbase : base ≤ w.heap.size) (hm : 0 < m)
    (hK : ∀ g cap w', w'.ownsRow base e size (.slice (some ⟨g, 0, none⟩) (n + m) cap) (n + m) (xs ++ news) → w.grownBy w' v.ownBlock → (some g = v.ownBlock ∨ w.heap.size ≤ g) → K (a.put o.dst (.slice (some ⟨g, 0, none⟩) (n + m) cap)) w') :
    if Region.wanted o (yielded ops a.tmps) = true then Oper.wp P o a w K Q else E := by
  have hw : Region.wanted o (yielded ops a.tmps) = true := by simp [Region.wanted, hg]
  rw [if_pos hw]
  obtain ⟨v', w', hrun, r1, r2, r3⟩ := run_append_at (P := P) w base t o.type e i z size bytes h1 h2 h3 h4 h5 h6 h7 v n xs hown ad m c news hl hnews h1c h63 hbytes hbase
  have r0 := r1
  rcases r0.2 with ⟨_, h0⟩ | ⟨g, cap, _, rfl, _⟩
  · omega
  unfold Oper.wp
  simp [execOp, hop, resolve, invoke, builtin, hs, hx, hrun, Result.andThen]
  exact hK g cap w' r1 r2 (by
    rcases r3 with h | ⟨k, h, hk⟩
    · exact .inl h
    · cases h; exact .inr hk)
end

/-- An empty slice that was written out. -/
theorem ownsRow_empty (w : World) (e : TypeId) (sz : Nat) : (w.alloc (.cells #[] e)).ownsRow w.heap.size e sz (.slice (some ⟨w.heap.size, 0, none⟩) 0 0) 0 [] :=
  ⟨by simp, .inr ⟨w.heap.size, 0, #[], rfl, Nat.le_refl _, heap_alloc_new w _, Nat.le_refl _, by unfold maxLen; omega, by simp, by simp⟩⟩

/-- What isn't of F stands where F is changed, and is not of what F is then. -/
theorem cell_step {F F' : Nat → Prop} {w w' : World} {p : Addr} {v : Value} (s : Step F F' w w') (hc : w.cell? p = some v) (hn : ¬ F p.block) : w'.cell? p = some v ∧ ¬ F' p.block := by
  have hl := World.block_lt_of_cell? w p hc
  refine ⟨(World.cell?_of_block (s.only.block p.block hl hn)).trans hc, fun h => ?_⟩
  rcases s.foot _ h with h1 | h1
  · exact hn h1
  · omega

/-- A row of one's own hangs on its block alone. -/
theorem ownsRow_keep {base : Nat} {e : TypeId} {sz : Nat} {w w' : World} {v : Value} {n : Nat} {xs : List Value} (h : w.ownsRow base e sz v n xs) (hk : ∀ k, v.ownBlock = some k → w'.heap[k]? = w.heap[k]?) : w'.ownsRow base e sz v n xs := by
  refine ⟨h.1, ?_⟩
  rcases h.2 with hn | ⟨g, cap, cur, rfl, h4, h5, rest⟩
  · exact .inl hn
  · exact .inr ⟨g, cap, cur, rfl, h4, (hk g rfl).trans h5, rest⟩
/-- .. which is no map's, and of no struct. -/
theorem ownsRow_type {base : Nat} {e : TypeId} {sz : Nat} {w : World} {v : Value} {n : Nat} {xs : List Value} (h : w.ownsRow base e sz v n xs) {k : Nat} (hk : v.ownBlock = some k) : ∃ cs, w.heap[k]? = some (.cells cs e (0, 0)) := by
  rcases h.2 with ⟨rfl, _⟩ | ⟨g, cap, cur, rfl, _, h5, _⟩
  · simp [Value.ownBlock] at hk
  · simp only [Value.ownBlock, Option.some.injEq] at hk
    subst hk
    exact ⟨cur, h5⟩

/-- A call of a Go function, by its contract, as one step of a region that draws its order. -/
theorem step_call {P : Program} {ops : Array Oper} {o : Oper} {a : Act} {w : World} {K : Act → World → Prop} {Q : Exit → Act → World → Prop} {E : Prop}
    (hg : o.guard = none) (f : FuncId) (vals : Array Value) (hx : (execOp a.eval o).run P w = .ok (.enter f vals) w) {R : Ending → World → Prop} (hC : Calls P f vals w R)
    (hr : ∀ e w', R e w' → ∃ v, e = .returned v ∧ K (a.put o.dst v) w') : if Region.wanted o (yielded ops a.tmps) = true then Oper.wp P o a w K Q else E := by
  have hw : Region.wanted o (yielded ops a.tmps) = true := by simp [Region.wanted, hg]
  rw [if_pos hw]
  unfold Oper.wp
  rw [hx, Oper.upon_enter]
  refine hC.mono ?_
  intro e w' h
  obtain ⟨v, rfl, hK⟩ := hr e w' h
  exact hK

theorem new_cells (w : World) (l : List Value) (e : TypeId) : ∀ (j : Nat) (u : Value), l[j]? = some u → (w.alloc (.cells l.toArray e)).cell? ((⟨w.heap.size, 0, none⟩ : Addr).add j) = some u := by
  intro j u hj
  have hadd : (⟨w.heap.size, 0, none⟩ : Addr).add j = ⟨w.heap.size, j, none⟩ := by unfold Addr.add; split <;> simp_all
  rw [hadd, cell_of_row _ _ _ _ _ _ (heap_alloc_new w _)]
  simpa using hj

/-- Block b holds just these cells, is of type t, and may be written. -/
def Blk (t : TypeId) (w : World) (b : Nat) (cs : Array Value) : Prop := w.heap[b]? = some (.cells cs t (0, 0))

/-- Block b is a struct (of type t), and one field of it, with the fields pre ahead of it and post behind, is a slice that owns the cells xs, of n elements of type e, sz cells each, in the block r (none: it is nil); all from block base on. -/
def Fld (t e : TypeId) (sz base : Nat) (w : World) (b : Nat) (pre post : List Value) (n : Nat) (xs : List Value) (r : Option Nat) : Prop :=
  base ≤ b ∧ r ≠ some b ∧ ∃ v, Blk t w b ⟨pre ++ v :: post⟩ ∧ w.ownsRow base e sz v n xs ∧ v.ownBlock = r

/-- .. a struct of a slice and a number. -/
abbrev Arn (t e : TypeId) (sz base : Nat) (w : World) (b : Nat) (room : Int) (n : Nat) (xs : List Value) (r : Option Nat) : Prop := Fld t e sz base w b [] [.int .i64 room] n xs r

/-- Only block b, the row r and new blocks were written, and the row is now r', which is r or new. -/
structure Chg (b : Nat) (r r' : Option Nat) (w w' : World) : Prop where
  os : w'.os = w.os
  tape : w'.tape = w.tape
  output : w'.output = w.output
  size : w.heap.size ≤ w'.heap.size
  block : ∀ k, k < w.heap.size → k ≠ b → some k ≠ r → w'.heap[k]? = w.heap[k]?
  row : r' = r ∨ ∃ k, r' = some k ∧ w.heap.size ≤ k

theorem bl_drewN {B : Nat} {a w : World} (h : Below B a w) (k : Nat) : Below B a (w.drewN k) := ⟨h.os, h.tape, h.output, h.size, h.block⟩

section
variable {t : TypeId} {w w' : World} {b : Nat} {cs : Array Value}
theorem Blk.lt (h : Blk t w b cs) : b < w.heap.size := lt_of_block h
theorem Blk.cell (h : Blk t w b cs) (j : Nat) : w.cell? ⟨b, j, none⟩ = cs[j]? := cell_of_row w b j cs t (0, 0) h
theorem Blk.free (h : Blk t w b cs) (j : Nat) : w.frozen? ⟨b, j, none⟩ = false := by unfold Blk at h; simp [World.frozen?, h]
theorem Blk.set (h : Blk t w b cs) (j : Nat) (u : Value) : Blk t (w.setCell ⟨b, j, none⟩ u) b (cs.setIfInBounds j u) := by
  have hl := h.lt
  unfold Blk at h ⊢
  have h' : w.heap[b] = .cells cs t (0, 0) := by simpa [Array.getElem?_eq_getElem hl] using h
  show (w.heap.modify b _)[b]? = _
  rw [Array.getElem?_eq_getElem (by simpa using hl), Array.getElem_modify_self, h']
  rfl
theorem Blk.keep (h : Blk t w b cs) (k : w'.heap[b]? = w.heap[b]?) : Blk t w' b cs := k.trans h
theorem Blk.alloc (h : Blk t w b cs) (o : Obj) : Blk t (w.alloc o) b cs := h.keep (Below.heap_alloc w o b h.lt)
theorem Blk.other (h : Blk t w b cs) {p : Addr} (hp : b ≠ p.block) (u : Value) : Blk t (w.setCell p u) b cs := h.keep (Below.heap_setCell w p u b hp)
theorem Blk.drew (h : Blk t w b cs) : Blk t w.drew b cs := h
theorem Blk.drewN (h : Blk t w b cs) (k : Nat) : Blk t (w.drewN k) b cs := h
theorem Blk.grown (h : Blk t w b cs) {r : Option Nat} (hg : w.grownBy w' r) (hr : some b ≠ r) : Blk t w' b cs := h.keep (hg.block b h.lt hr)
theorem Blk.below (h : Blk t w b cs) {B : Nat} (hg : Below B w w') (hr : b < B) : Blk t w' b cs := h.keep (hg.block b hr)
theorem Blk.chg (h : Blk t w b cs) {b2 : Nat} {r r' : Option Nat} (c : Chg b2 r r' w w') (h1 : b ≠ b2) (h2 : some b ≠ r) : Blk t w' b cs := h.keep (c.block b h.lt h1 h2)
theorem Blk.made (w : World) (t : TypeId) (cs : Array Value) : Blk t (w.alloc (.cells cs t)) w.heap.size cs := heap_alloc_new w _
end

section
variable {t e t2 e2 : TypeId} {sz sz2 base base2 : Nat} {w w' : World} {b b2 : Nat} {room : Int} {pre post pre2 post2 : List Value} {n n2 : Nat} {xs xs2 : List Value} {r r' r2 : Option Nat}

theorem Fld.base_le (h : Fld t e sz base w b pre post n xs r) : base ≤ b := h.1
theorem Fld.lt (h : Fld t e sz base w b pre post n xs r) : b < w.heap.size := by
  obtain ⟨_, _, v, hb, _⟩ := h
  exact hb.lt
theorem Fld.len (h : Fld t e sz base w b pre post n xs r) : xs.length = n * sz := by
  obtain ⟨_, _, v, _, ho, _⟩ := h
  exact ho.1
theorem Fld.row_lt (h : Fld t e sz base w b pre post n xs r) : ∀ k, r = some k → base ≤ k ∧ k < w.heap.size := by
  obtain ⟨_, _, v, _, ho, rfl⟩ := h
  exact ho.lt
theorem Fld.row_ne (h : Fld t e sz base w b pre post n xs r) : some b ≠ r := fun e => h.2.1 e.symm
/-- The row's block has another element type than a block of another type. -/
theorem Fld.row_type (h : Fld t e sz base w b pre post n xs r) {cs : Array Value} {k : Nat} (hk : Blk t2 w k cs) (hne : t2 ≠ e) : some k ≠ r := by
  obtain ⟨_, _, v, _, ho, rfl⟩ := h
  rcases ho.2 with ⟨rfl, _⟩ | ⟨g, cap, cur, rfl, _, hg, _⟩
  · simp [Value.ownBlock]
  · simp only [Value.ownBlock]
    intro e1
    cases e1
    unfold Blk at hk
    rw [hg] at hk
    simp at hk
    exact hne hk.2.symm

/-- What the walk is told of it. -/
theorem Fld.open (h : Fld t e sz base w b pre post n xs r) : ∃ ao cap, Blk t w b ⟨pre ++ .slice ao n cap :: post⟩ ∧ w.ownsRow base e sz (.slice ao n cap) n xs ∧ (Value.slice ao n cap).ownBlock = r := by
  obtain ⟨_, _, v, hb, ho, hr⟩ := h
  obtain ⟨ao, cap, rfl⟩ : ∃ ao cap, v = .slice ao n cap := by
    rcases ho.2 with ⟨rfl, rfl⟩ | ⟨g, cap, cur, rfl, _⟩
    · exact ⟨none, 0, rfl⟩
    · exact ⟨_, cap, rfl⟩
  exact ⟨ao, cap, hb, ho, hr⟩

theorem Arn.open (h : Arn t e sz base w b room n xs r) : ∃ ao cap, w.cell? ⟨b, 0, none⟩ = some (.slice ao n cap) ∧ w.cell? ⟨b, 1, none⟩ = some (.int .i64 room) ∧ w.frozen? ⟨b, 0, none⟩ = false ∧
    w.ownsRow base e sz (.slice ao n cap) n xs ∧ (Value.slice ao n cap).ownBlock = r := by
  obtain ⟨ao, cap, hb, ho, hr⟩ := Fld.open h
  exact ⟨ao, cap, hb.cell 0, hb.cell 1, hb.free 0, ho, hr⟩

/-- Its elements' cells, where it has one. -/
theorem Fld.elem (h : Fld t e sz base w b pre post n xs r) (hn : 0 < n) : ∃ g cap, Blk t w b ⟨pre ++ .slice (some ⟨g, 0, none⟩) n cap :: post⟩ ∧ ∀ j, j < n * sz → w.cell? ⟨g, j, none⟩ = xs[j]? := by
  obtain ⟨_, _, v, hb, ho, hr⟩ := h
  rcases ho.2 with ⟨rfl, rfl⟩ | ⟨g, cap, cur, rfl, _⟩
  · omega
  · exact ⟨g, cap, hb, fun j hj => ho.cellAt j hj⟩
theorem Arn.elem (h : Arn t e sz base w b room n xs r) (hn : 0 < n) : ∃ g cap, w.cell? ⟨b, 0, none⟩ = some (.slice (some ⟨g, 0, none⟩) n cap) ∧ ∀ j, j < n * sz → w.cell? ⟨g, j, none⟩ = xs[j]? := by
  obtain ⟨g, cap, hb, hc⟩ := Fld.elem h hn
  exact ⟨g, cap, hb.cell 0, hc⟩

theorem Fld.keep (h : Fld t e sz base w b pre post n xs r) (hb : w'.heap[b]? = w.heap[b]?) (hr : ∀ k, r = some k → w'.heap[k]? = w.heap[k]?) : Fld t e sz base w' b pre post n xs r := by
  obtain ⟨h1, h2, v, h3, ho, rfl⟩ := h
  refine ⟨h1, h2, v, h3.keep hb, ⟨ho.1, ?_⟩, rfl⟩
  rcases ho.2 with hn | ⟨g, cap, cur, rfl, h4, h5, rest⟩
  · exact .inl hn
  · exact .inr ⟨g, cap, cur, rfl, h4, (hr g rfl).trans h5, rest⟩
theorem Fld.alloc (h : Fld t e sz base w b pre post n xs r) (o : Obj) : Fld t e sz base (w.alloc o) b pre post n xs r :=
  h.keep (Below.heap_alloc w o b h.lt) (fun k hk => Below.heap_alloc w o k (h.row_lt k hk).2)
theorem Fld.drew (h : Fld t e sz base w b pre post n xs r) : Fld t e sz base w.drew b pre post n xs r := h
theorem Fld.drewN (h : Fld t e sz base w b pre post n xs r) (k : Nat) : Fld t e sz base (w.drewN k) b pre post n xs r := h
theorem Fld.grown (h : Fld t e sz base w b pre post n xs r) (g : w.grownBy w' none) : Fld t e sz base w' b pre post n xs r :=
  h.keep (g.block b h.lt (by simp)) (fun k hk => g.block k (h.row_lt k hk).2 (by simp))
theorem Fld.grownRow (h : Fld t e sz base w b pre post n xs r) (g : w.grownBy w' r2) (h1 : some b ≠ r2) (h2 : r = none ∨ r ≠ r2) : Fld t e sz base w' b pre post n xs r :=
  h.keep (g.block b h.lt h1) (fun k hk => g.block k (h.row_lt k hk).2 (by
    rcases h2 with h2 | h2
    · rw [h2] at hk; cases hk
    · rw [← hk]; exact h2))
theorem Fld.other (h : Fld t e sz base w b pre post n xs r) {p : Addr} (hp : b ≠ p.block) (hr : r ≠ some p.block) (u : Value) : Fld t e sz base (w.setCell p u) b pre post n xs r :=
  h.keep (Below.heap_setCell w p u b hp) (fun k hk => Below.heap_setCell w p u k (fun e => hr (by rw [hk, e])))

/-- A new one. -/
theorem Fld.made (w : World) (t e : TypeId) (sz : Nat) (hb : base ≤ w.heap.size) (pre post : List Value) : Fld t e sz base (w.alloc (.cells ⟨pre ++ .slice none 0 0 :: post⟩ t)) w.heap.size pre post 0 [] none :=
  ⟨hb, by simp, .slice none 0 0, heap_alloc_new w _, World.ownsRow_nil _ _ _ _, rfl⟩
theorem Arn.made (w : World) (t e : TypeId) (sz : Nat) (hb : base ≤ w.heap.size) (room : Int) : Arn t e sz base (w.alloc (.cells #[.slice none 0 0, .int .i64 room] t)) w.heap.size room 0 [] none :=
  Fld.made w t e sz hb [] [.int .i64 room]

/-- A field beside the slice is stored. -/
theorem Fld.setPost (h : Fld t e sz base w b pre post n xs r) (j : Nat) (u : Value) : Fld t e sz base (w.setCell ⟨b, pre.length + 1 + j, none⟩ u) b pre (post.set j u) n xs r := by
  obtain ⟨h1, h2, v, h3, ho, rfl⟩ := h
  refine ⟨h1, h2, v, ?_, ownsRow_setCell_other ho h2 _, rfl⟩
  have := h3.set (pre.length + 1 + j) u
  simpa [List.set_append, List.set_cons_succ, show ¬ pre.length + 1 + j < pre.length by omega, show pre.length + 1 + j - pre.length = j + 1 by omega] using this

theorem Chg.below {B : Nat} (h : Chg b r r' w w') {w0 : World} (k : Below B w0 w) (hs : B ≤ w.heap.size) (hb : B ≤ b) (hr : ∀ k, r = some k → B ≤ k) : Below B w0 w' :=
  k.trans ⟨h.os, h.tape, h.output, h.size, fun i hi => h.block i (by omega) (by omega) (fun e => by have := hr i e.symm; omega)⟩

/-- Behind a put into one of its own, where base is below all. -/
theorem Chg.bl {B : Nat} (h : Chg b r r' w w') {w0 : World} (k : Below B w0 w) (hs : B ≤ w.heap.size) (a : Fld t e sz B w b pre post n xs r) : Below B w0 w' :=
  h.below k hs a.base_le (fun i hi => (a.row_lt i hi).1)

/-- Another block, neither the struct nor the row, is as it was. -/
theorem Chg.cell (h : Chg b r r' w w') {a : Addr} {v : Value} (hc : w.cell? a = some v) (hb : a.block ≠ b) (hr : some a.block ≠ r) : w'.cell? a = some v :=
  (World.cell?_of_block (h.block a.block (World.block_lt_of_cell? w a hc) hb hr)).trans hc

/-- Two of them that have nothing to do with each other. -/
def Apart (b : Nat) (r : Option Nat) (b2 : Nat) (r2 : Option Nat) : Prop := b ≠ b2 ∧ r ≠ some b2 ∧ r2 ≠ some b ∧ (r = none ∨ r ≠ r2)
theorem Apart.symm (h : Apart b r b2 r2) : Apart b2 r2 b r := ⟨h.1.symm, h.2.2.1, h.2.1, by
  cases r2 with
  | none => exact .inl rfl
  | some k => exact .inr (fun e => by rcases h.2.2.2 with h' | h'; · rw [h'] at e; cases e
                                      · exact h' e.symm)⟩
theorem Apart.step (h : Apart b r b2 r2) (c : Chg b r r' w w') (a2 : Fld t2 e2 sz2 base2 w b2 pre2 post2 n2 xs2 r2) : Apart b r' b2 r2 := by
  rcases c.row with rfl | ⟨k, rfl, hk⟩
  · exact h
  · refine ⟨h.1, fun e => ?_, h.2.2.1, .inr fun e => ?_⟩
    · have := a2.lt; cases e; omega
    · have := (a2.row_lt k e.symm).2; omega
theorem Fld.chg (a2 : Fld t2 e2 sz2 base2 w b2 pre2 post2 n2 xs2 r2) (c : Chg b r r' w w') (h : Apart b r b2 r2) : Fld t2 e2 sz2 base2 w' b2 pre2 post2 n2 xs2 r2 :=
  a2.keep (c.block b2 a2.lt h.1.symm h.2.1.symm) (fun k hk => c.block k (a2.row_lt k hk).2 (fun e => h.2.2.1 (by rw [hk, e])) (fun e => by
    subst hk
    rcases h.2.2.2 with h' | h'
    · rw [h'] at e; cases e
    · exact h' e.symm))

/-- The put, told once: the append has grown the row, and then the slice was stored. -/
theorem Fld.put (h : Fld t e sz base w b pre post n xs r) {w1 : World} {g' c' n' : Nat} {xs' : List Value} (ho : w1.ownsRow base e sz (.slice (some ⟨g', 0, none⟩) n' c') n' xs') (g : w.grownBy w1 r)
    (hv : some g' = r ∨ w.heap.size ≤ g') : Fld t e sz base (w1.setCell ⟨b, pre.length, none⟩ (.slice (some ⟨g', 0, none⟩) n' c')) b pre post n' xs' (some g') ∧ Chg b r (some g') w (w1.setCell ⟨b, pre.length, none⟩ (.slice (some ⟨g', 0, none⟩) n' c')) := by
  have hb0 := h.lt
  obtain ⟨h1, h2, v, h3, _, hr⟩ := h
  have hb1 : Blk t w1 b ⟨pre ++ v :: post⟩ := h3.grown g (fun e => h2 e.symm)
  have hne : (some g') ≠ some b := by
    rcases hv with e | hk
    · rw [e]; exact h2
    · intro e2; cases e2; omega
  refine ⟨⟨h1, hne, _, ?_, ownsRow_setCell_other ho (by simpa [Value.ownBlock] using hne) _, rfl⟩, ⟨g.os, g.tape, g.output, by simpa [World.setCell] using g.size, fun k hk hkb hkr => ?_, ?_⟩⟩
  · have := hb1.set pre.length (.slice (some ⟨g', 0, none⟩) n' c')
    simpa [List.set_append] using this
  · exact (Below.heap_setCell _ _ _ _ hkb).trans (g.block k hk hkr)
  · rcases hv with e | hk
    · exact .inl e
    · exact .inr ⟨g', rfl, hk⟩
theorem Arn.put (h : Arn t e sz base w b room n xs r) {w1 : World} {g' c' n' : Nat} {xs' : List Value} (ho : w1.ownsRow base e sz (.slice (some ⟨g', 0, none⟩) n' c') n' xs') (g : w.grownBy w1 r)
    (hv : some g' = r ∨ w.heap.size ≤ g') : Arn t e sz base (w1.setCell ⟨b, 0, none⟩ (.slice (some ⟨g', 0, none⟩) n' c')) b room n' xs' (some g') ∧ Chg b r (some g') w (w1.setCell ⟨b, 0, none⟩ (.slice (some ⟨g', 0, none⟩) n' c')) :=
  Fld.put h ho g hv

/-- Behind the append, ahead of the store. -/
theorem Fld.mid (h : Fld t e sz base w b pre post n xs r) {v : Value} {o : Obj} {w1 : World} {j : Nat} (c : w.cell? ⟨b, j, none⟩ = some v) (g : (w.alloc o).grownBy w1 r) : w1.cell? ⟨b, j, none⟩ = some v ∧ w1.frozen? ⟨b, j, none⟩ = false := by
  have e1 : w1.heap[b]? = w.heap[b]? := (g.block b (by have := h.lt; simp; omega) (fun e => h.2.1 e.symm)).trans (Below.heap_alloc w o b h.lt)
  obtain ⟨_, _, v0, hb, _⟩ := h
  exact ⟨(World.cell?_of_block (w := w) e1).trans c, Blk.free (hb.keep e1) j⟩

theorem Chg.after (c : Chg b r r' w w') {w0 : World} (g : w0.grownBy w none) : Chg b r r' w0 w' :=
  ⟨c.os.trans g.os, c.tape.trans g.tape, c.output.trans g.output, Nat.le_trans g.size c.size, fun k hk hb hr => (c.block k (Nat.lt_of_lt_of_le hk g.size) hb hr).trans (g.block k hk (by simp)), by
    rcases c.row with h | ⟨k, h, hk⟩
    · exact .inl h
    · exact .inr ⟨k, h, Nat.le_trans g.size hk⟩⟩
theorem Chg.drewN (c : Chg b r r' w w') (k : Nat) : Chg b r r' w (w'.drewN k) := ⟨c.os, c.tape, c.output, c.size, c.block, c.row⟩
theorem Chg.drew (c : Chg b r r' w w') : Chg b r r' w w'.drew := ⟨c.os, c.tape, c.output, c.size, c.block, c.row⟩
end

/-- The first n numbers of a list, as a row of cells. -/
def vals (z : Nat → Int) (n : Nat) : List Value := (List.range n).map fun i => .int .i64 (z i)
theorem vals_succ (z : Nat → Int) (n : Nat) : vals z (n + 1) = vals z n ++ [.int .i64 (z n)] := by simp [vals, List.range_succ]
theorem vals_get (z : Nat → Int) (n i : Nat) (h : i < n) : (vals z n)[i]? = some (.int .i64 (z i)) := by simp [vals, h]
theorem vals_push (z : Nat → Int) (n : Nat) (x : Int) : ∃ y, vals y (n + 1) = vals z n ++ [.int .i64 x] ∧ vals y n = vals z n ∧ y n = x := by
  have h : vals (fun j => if j = n then x else z j) n = vals z n := by
    apply List.map_congr_left
    intro i hi
    have : i < n := by simpa using hi
    simp [show i ≠ n by omega]
  exact ⟨fun j => if j = n then x else z j, by rw [vals_succ, h]; simp, h, by simp⟩

/-- The first n pairs of a list, as a row of cells. -/
def pairs (z : Nat → Nat → Int) (n : Nat) : List Value := (List.range n).flatMap fun i => [.int .i64 (z i 0), .int .i64 (z i 1)]
theorem pairs_succ (z : Nat → Nat → Int) (n : Nat) : pairs z (n + 1) = pairs z n ++ [.int .i64 (z n 0), .int .i64 (z n 1)] := by simp [pairs, List.range_succ]
theorem pairs_length (z : Nat → Nat → Int) (n : Nat) : (pairs z n).length = n * 2 := by
  induction n with
  | zero => rfl
  | succ n ih => rw [pairs_succ, List.length_append, ih]; simp; omega
theorem pairs_get (z : Nat → Nat → Int) (n i : Nat) (h : i < n) : (pairs z n)[i * 2]? = some (.int .i64 (z i 0)) ∧ (pairs z n)[i * 2 + 1]? = some (.int .i64 (z i 1)) := by
  induction n with
  | zero => omega
  | succ n ih =>
    have hl := pairs_length z n
    rw [pairs_succ]
    by_cases hi : i < n
    · rw [List.getElem?_append_left (by omega), List.getElem?_append_left (by omega)]
      exact ih hi
    · obtain rfl : i = n := by omega
      rw [List.getElem?_append_right (by omega), List.getElem?_append_right (by omega), hl]
      simp
end Go.Proofs.Ytkidkhjpijjphaa.base

/- A map keyed by int, told by a function: plain facts on memory, of no program. The elements are held as they are, whatever they lead to. -/
namespace Go.Proofs.Ytkidkhjpijjphaa.base
open Go Go.RowKit Go.Maps

/-- An element reads as itself. -/
def heldR (v : Value) : Option (DataW Value × List MemPlace) := some (.held v, [])

/-- Block b is a map of n entries from numbers (keys of type k, of kind int) to what f tells. -/
def MapF (P : Program) (k : TypeId) (w : World) (b n : Nat) (f : Int → Option Value) : Prop :=
  ∃ D, w.ownsMap P k heldR b n D ∧ Maps.size D = n ∧ ∀ j, Maps.has D (.int .i64 j) = (f j).isSome ∧ ∀ v z, f j = some v → D.atKey (.int .i64 j) z = .held v

section
variable {P : Program} {k e t : TypeId} {w w' : World} {b n : Nat} {f : Int → Option Value}

theorem MapF.lt (h : MapF P k w b n f) : b < w.heap.size := by
  obtain ⟨D, h, _⟩ := h
  exact h.lt
theorem MapF.keep (h : MapF P k w b n f) (hb : w'.heap[b]? = w.heap[b]?) : MapF P k w' b n f := by
  obtain ⟨D, ⟨es, c, h1, h2⟩, h3⟩ := h
  exact ⟨D, ⟨es, c, hb.trans h1, h2⟩, h3⟩
theorem MapF.not_cells (h : MapF P k w b n f) {cs : Array Value} {ty : TypeId} {fr : Nat × Nat} : w.heap[b]? ≠ some (.cells cs ty fr) := by
  obtain ⟨D, ⟨es, c, h1, h2⟩, h3⟩ := h
  rw [h1]
  simp
theorem MapF.made (w : World) (P : Program) (k : TypeId) : MapF P k (w.alloc (.map #[] 0)) w.heap.size 0 (fun _ => none) :=
  ⟨_, World.ownsMap_made w P k heldR, rfl, fun j => ⟨rfl, by simp⟩⟩

/-- 'v, ok := m[j]', j there. -/
theorem MapF.hit (h : MapF P k w b n f) (hk : P.underlying k = some (.int .i64)) (ht : P.underlying t = some (.map k e)) {z : Value} (hz : (zeroValue e).run P w = .ok z w) {j : Int} (hj : (Lit.int .i64 j).wf = true) {v : Value} (hf : f j = some v) :
    (Instr.lookup t (.map (some b)) (.int .i64 j) true).run P w = .ok (.tuple #[v, .bool true]) w := by
  obtain ⟨D, h, _, hD⟩ := h
  obtain ⟨u, ps, hr, hu⟩ := h.look_ok (int_keyed hk) ht hz (zd := .held z) rfl (keyOf_int_mk hk hj)
  rw [hr, (hD j).1, hf]
  rw [(hD j).2 v _ hf] at hu
  simp only [heldR, Option.some.injEq, Prod.mk.injEq, DataW.held.injEq] at hu
  rw [hu.1]
  rfl

/-- .. j not there. -/
theorem MapF.miss (h : MapF P k w b n f) (hk : P.underlying k = some (.int .i64)) (ht : P.underlying t = some (.map k e)) {z : Value} (hz : (zeroValue e).run P w = .ok z w) {j : Int} (hj : (Lit.int .i64 j).wf = true) (hf : f j = none) :
    (Instr.lookup t (.map (some b)) (.int .i64 j) true).run P w = .ok (.tuple #[z, .bool false]) w := by
  obtain ⟨D, h, _, hD⟩ := h
  obtain ⟨u, ps, hr, hu⟩ := h.look_ok (int_keyed hk) ht hz (zd := .held z) rfl (keyOf_int_mk hk hj)
  have h0 : Maps.has D (.int .i64 j) = false := by rw [(hD j).1, hf]; rfl
  rw [hr, h0]
  rw [atKey_of_not_has h0] at hu
  simp only [heldR, Option.some.injEq, Prod.mk.injEq, DataW.held.injEq] at hu
  rw [hu.1]

/-- 'm[j]' (without 'ok'). -/
theorem MapF.get (h : MapF P k w b n f) (hk : P.underlying k = some (.int .i64)) (ht : P.underlying t = some (.map k e)) {z : Value} (hz : (zeroValue e).run P w = .ok z w) {j : Int} (hj : (Lit.int .i64 j).wf = true) :
    (Instr.lookup t (.map (some b)) (.int .i64 j) false).run P w = .ok ((f j).getD z) w := by
  obtain ⟨D, h, _, hD⟩ := h
  obtain ⟨u, ps, hr, hu⟩ := h.lookup (int_keyed hk) ht hz (zd := .held z) rfl (keyOf_int_mk hk hj)
  rw [hr]
  cases hf : f j with
  | none =>
    have h0 : Maps.has D (.int .i64 j) = false := by rw [(hD j).1, hf]; rfl
    rw [atKey_of_not_has h0] at hu
    simp only [heldR, Option.some.injEq, Prod.mk.injEq, DataW.held.injEq] at hu
    rw [hu.1]
    rfl
  | some v =>
    rw [(hD j).2 v _ hf] at hu
    simp only [heldR, Option.some.injEq, Prod.mk.injEq, DataW.held.injEq] at hu
    rw [hu.1]
    rfl

/-- 'm[j] = v', whether j is there or not. -/
theorem MapF.set (h : MapF P k w b n f) (hk : P.underlying k = some (.int .i64)) (ht : P.underlying t = some (.map k e)) (hn : n < maxLen) {j : Int} (hj : (Lit.int .i64 j).wf = true) (v : Value) :
    ∃ w' n', n' ≤ n + 1 ∧ (Instr.mapUpdate t (.map (some b)) (.int .i64 j) v).run P w = .ok () w' ∧ MapF P k w' b n' (fun i => if i = j then some v else f i) ∧ w.grownBy w' (some b) := by
  obtain ⟨D, h, hs, hD⟩ := h
  have K := int_keyed hk
  have hkey := keyOf_int_mk hk hj
  obtain ⟨w', hr, ho, hg⟩ := h.update K ht hn hkey (val := v) (d := .held v) (ps := []) rfl
  have hs2 := size_put (d := .held v) (h.tidy K) (k := .int .i64 j)
  have hle : Maps.size (D.put (.int .i64 j) (.held v)) ≤ n + 1 := by rw [hs2, hs]; split <;> omega
  obtain ⟨es, c, hb, hfit, hsz, hDD⟩ := ho
  have hsz2 : es.size ≤ Maps.size (D.put (.int .i64 j) (.held v)) := by rw [hDD]; simp [Maps.size, length_sorted]
  refine ⟨w', _, hle, hr, ⟨_, ⟨es, c, hb, hfit, hsz2, hDD⟩, rfl, fun i => ?_⟩, hg⟩
  by_cases hi : i = j
  · subst hi
    rw [has_put_same h.isMap (K.key hkey)]
    refine ⟨by simp, fun u z hu => ?_⟩
    simp at hu
    subst hu
    exact atKey_put_same h.isMap (K.key hkey) _ _
  · have hne : (Lit.int .i64 i) ≠ .int .i64 j := fun e => hi (by cases e; rfl)
    rw [has_put_other hne]
    refine ⟨by simpa [hi] using (hD i).1, fun u z hu => ?_⟩
    simp [hi] at hu
    rw [atKey_put_other hne]
    exact (hD i).2 u z hu

theorem MapF.len (h : MapF P k w b n f) (ht : P.underlying t = some (.map k e)) (ty : TypeId) : (Builtin.len_ #[t] ty #[.map (some b)]).run P w = .ok (.int .i64 n) w := by
  obtain ⟨D, h, hs, _⟩ := h
  rw [h.len ht ty, hs]

/-- 'm[j] = v', j not there till now. -/
theorem MapF.put (h : MapF P k w b n f) (hk : P.underlying k = some (.int .i64)) (ht : P.underlying t = some (.map k e)) (hn : n < maxLen) {j : Int} (hj : (Lit.int .i64 j).wf = true) (hf : f j = none) (v : Value) :
    ∃ w', (Instr.mapUpdate t (.map (some b)) (.int .i64 j) v).run P w = .ok () w' ∧ MapF P k w' b (n + 1) (fun i => if i = j then some v else f i) ∧ w.grownBy w' (some b) := by
  obtain ⟨D, h, hs, hD⟩ := h
  have K := int_keyed hk
  have hkey := keyOf_int_mk hk hj
  obtain ⟨w', hr, ho, hg⟩ := h.update K ht hn hkey (val := v) (d := .held v) (ps := []) rfl
  have h0 : Maps.has D (.int .i64 j) = false := by rw [(hD j).1, hf]; rfl
  refine ⟨w', hr, ⟨_, ho, ?_, fun i => ?_⟩, hg⟩
  · rw [size_put (h.tidy K), h0, hs]; rfl
  · by_cases hi : i = j
    · subst hi
      rw [has_put_same h.isMap (K.key hkey)]
      refine ⟨by simp, fun u z hu => ?_⟩
      simp at hu
      subst hu
      exact atKey_put_same h.isMap (K.key hkey) _ _
    · have hne : (Lit.int .i64 i) ≠ .int .i64 j := fun e => hi (by cases e; rfl)
      rw [has_put_other hne]
      refine ⟨by simpa [hi] using (hD i).1, fun u z hu => ?_⟩
      simp [hi] at hu
      rw [atKey_put_other hne]
      exact (hD i).2 u z hu
end

/-- The store at the operation, for a walk. -/
theorem wpList_put_mapF {P : Program} (w : World) {ops : Array Oper} {rest : List Oper} {o : Oper} {a : Act} {Q : Exit → Act → World → Prop}
    (hg : o.guard = none) (m x v : Operand) (t : TypeId) (hop : o.op = Op.mapUpdate t m x v)
    (k e : TypeId) (hk : P.underlying k = some (.int .i64)) (ht : P.underlying t = some (.map k e)) (b n : Nat) (f : Int → Option Value)
    (hm : a.eval m = .map (some b)) (h : MapF P k w b n f) (hn : n < maxLen) (j : Int) (hx : a.eval x = .int .i64 j) (hj : (Lit.int .i64 j).wf = true) (hf : f j = none) (val : Value) (hv : a.eval v = val)
    (hK : ∀ w', MapF P k w' b (n + 1) (fun i => if i = j then some val else f i) → w.grownBy w' (some b) → wpList P ops Q rest (a.put o.dst undef) w') :
    wpList P ops Q (o :: rest) a w := by
  refine wpList_plain hg fun K' hK' => ?_
  obtain ⟨w', hrun, r1, r2⟩ := h.put hk ht hn hj hf val
  unfold Oper.wp
  simp [execOp, hop, hm, hx, hv, hrun, Result.andThen]
  exact hK' _ _ (hK w' r1 r2)
/-- The look-up at the operation, for a walk: the number is there. -/
theorem wpList_hit_mapF {P : Program} (w : World) {ops : Array Oper} {rest : List Oper} {o : Oper} {a : Act} {Q : Exit → Act → World → Prop}
    (hg : o.guard = none) (m x : Operand) (t : TypeId) (hop : o.op = Op.lookup t m x true)
    (k e : TypeId) (hk : P.underlying k = some (.int .i64)) (ht : P.underlying t = some (.map k e)) (z : Value) (hz : (zeroValue e).run P w = .ok z w) (b n : Nat) (f : Int → Option Value)
    (hm : a.eval m = .map (some b)) (h : MapF P k w b n f) (j : Int) (hx : a.eval x = .int .i64 j) (hj : (Lit.int .i64 j).wf = true) (v : Value) (hf : f j = some v)
    (hK : wpList P ops Q rest (a.put o.dst (.tuple #[v, .bool true])) w) :
    wpList P ops Q (o :: rest) a w := by
  refine wpList_plain hg fun K' hK' => ?_
  have hrun := h.hit hk ht hz hj hf
  unfold Oper.wp
  simp [execOp, hop, hm, hx, hrun, Result.andThen]
  exact hK' _ _ hK

/-- .. the number is not there. -/
theorem wpList_miss_mapF {P : Program} (w : World) {ops : Array Oper} {rest : List Oper} {o : Oper} {a : Act} {Q : Exit → Act → World → Prop}
    (hg : o.guard = none) (m x : Operand) (t : TypeId) (hop : o.op = Op.lookup t m x true)
    (k e : TypeId) (hk : P.underlying k = some (.int .i64)) (ht : P.underlying t = some (.map k e)) (z : Value) (hz : (zeroValue e).run P w = .ok z w) (b n : Nat) (f : Int → Option Value)
    (hm : a.eval m = .map (some b)) (h : MapF P k w b n f) (j : Int) (hx : a.eval x = .int .i64 j) (hj : (Lit.int .i64 j).wf = true) (hf : f j = none)
    (hK : wpList P ops Q rest (a.put o.dst (.tuple #[z, .bool false])) w) :
    wpList P ops Q (o :: rest) a w := by
  refine wpList_plain hg fun K' hK' => ?_
  have hrun := h.miss hk ht hz hj hf
  unfold Oper.wp
  simp [execOp, hop, hm, hx, hrun, Result.andThen]
  exact hK' _ _ hK
end Go.Proofs.Ytkidkhjpijjphaa.base

/- A map whose keys are of whatever type, told by a function: plain facts on memory, of no program; and the operations on it, for a walk and for a walk inside a fence. The elements are held as they are. -/
namespace Go.Proofs.Ytkidkhjpijjphaa.base
open Go Go.RowKit Go.Maps

/-- Block b is a map of n entries at most, from the keys kv x to what f tells. -/
def MapG (P : Program) (k : TypeId) {κ : Type} (kv : κ → Value) (w : World) (b n : Nat) (f : κ → Option Value) : Prop :=
  ∃ D, w.ownsMap P k heldR b n D ∧ ∀ x kl, keyOf P k (kv x) = some kl → Maps.has D kl = (f x).isSome ∧ ∀ v z, f x = some v → D.atKey kl z = .held v

section
variable {P : Program} {k e t : TypeId} {κ : Type} {kv : κ → Value} {w w' : World} {b n m : Nat} {f g : κ → Option Value}

theorem MapG.lt (h : MapG P k kv w b n f) : b < w.heap.size := by
  obtain ⟨D, h, _⟩ := h
  exact h.lt
theorem MapG.keep (h : MapG P k kv w b n f) (hb : w'.heap[b]? = w.heap[b]?) : MapG P k kv w' b n f := by
  obtain ⟨D, ⟨es, c, h1, h2⟩, h3⟩ := h
  exact ⟨D, ⟨es, c, hb.trans h1, h2⟩, h3⟩
theorem MapG.grown (h : MapG P k kv w b n f) {r : Option Nat} (hg : w.grownBy w' r) (hr : some b ≠ r) : MapG P k kv w' b n f := h.keep (hg.block b h.lt hr)
theorem MapG.only {S : Nat → Prop} (h : MapG P k kv w b n f) (hg : Only S w w') (hr : ¬ S b) : MapG P k kv w' b n f := h.keep (hg.block b h.lt hr)
theorem MapG.not_cells (h : MapG P k kv w b n f) {cs : Array Value} {ty : TypeId} {fr : Nat × Nat} : w.heap[b]? ≠ some (.cells cs ty fr) := by
  obtain ⟨D, ⟨es, c, h1, h2⟩, h3⟩ := h
  rw [h1]
  simp
theorem MapG.ne_blk (h : MapG P k kv w b n f) {c : Nat} {ty : TypeId} {cs : Array Value} (g : Blk ty w c cs) : b ≠ c := fun e => h.not_cells (by rw [e]; exact g)
theorem MapG.made (w : World) (P : Program) (k : TypeId) (kv : κ → Value) : MapG P k kv (w.alloc (.map #[] 0)) w.heap.size 0 (fun _ => none) :=
  ⟨_, World.ownsMap_made w P k heldR, fun x kl _ => ⟨rfl, by simp⟩⟩
theorem MapG.more (h : MapG P k kv w b n f) (hn : n ≤ m) : MapG P k kv w b m f := by
  obtain ⟨D, h1, h2⟩ := h
  exact ⟨D, h1.mono hn, h2⟩
theorem MapG.congr (h : MapG P k kv w b n f) (he : ∀ x kl, keyOf P k (kv x) = some kl → g x = f x) : MapG P k kv w b n g := by
  obtain ⟨D, h1, h2⟩ := h
  refine ⟨D, h1, fun x kl hx => ?_⟩
  rw [he x kl hx]
  exact h2 x kl hx

theorem MapG.look (h : MapG P k kv w b n f) (K : Keyed P k) (ht : P.underlying t = some (.map k e)) {z : Value} (hz : (zeroValue e).run P w = .ok z w) {x : κ} {kl : Lit} (hx : keyOf P k (kv x) = some kl) :
    (Instr.lookup t (.map (some b)) (kv x) true).run P w = .ok (.tuple #[(f x).getD z, .bool (f x).isSome]) w := by
  obtain ⟨D, h, hD⟩ := h
  obtain ⟨u, ps, hr, hu⟩ := h.look_ok K ht hz (zd := .held z) rfl hx
  rw [hr, (hD x kl hx).1]
  cases hf : f x with
  | none =>
    have h0 : Maps.has D kl = false := by rw [(hD x kl hx).1, hf]; rfl
    rw [atKey_of_not_has h0] at hu
    simp only [heldR, Option.some.injEq, Prod.mk.injEq, DataW.held.injEq] at hu
    rw [hu.1]
    rfl
  | some v =>
    rw [(hD x kl hx).2 v _ hf] at hu
    simp only [heldR, Option.some.injEq, Prod.mk.injEq, DataW.held.injEq] at hu
    rw [hu.1]
    rfl
theorem MapG.get (h : MapG P k kv w b n f) (K : Keyed P k) (ht : P.underlying t = some (.map k e)) {z : Value} (hz : (zeroValue e).run P w = .ok z w) {x : κ} {kl : Lit} (hx : keyOf P k (kv x) = some kl) :
    (Instr.lookup t (.map (some b)) (kv x) false).run P w = .ok ((f x).getD z) w := by
  obtain ⟨D, h, hD⟩ := h
  obtain ⟨u, ps, hr, hu⟩ := h.lookup K ht hz (zd := .held z) rfl hx
  rw [hr]
  cases hf : f x with
  | none =>
    have h0 : Maps.has D kl = false := by rw [(hD x kl hx).1, hf]; rfl
    rw [atKey_of_not_has h0] at hu
    simp only [heldR, Option.some.injEq, Prod.mk.injEq, DataW.held.injEq] at hu
    rw [hu.1]
    rfl
  | some v =>
    rw [(hD x kl hx).2 v _ hf] at hu
    simp only [heldR, Option.some.injEq, Prod.mk.injEq, DataW.held.injEq] at hu
    rw [hu.1]
    rfl

open Classical in
/-- f, but v at x. -/
noncomputable def upd (f : κ → Option Value) (x : κ) (v : Option Value) : κ → Option Value := fun y => if y = x then v else f y
theorem upd_same (f : κ → Option Value) (x : κ) (v : Option Value) : upd f x v x = v := by simp [upd]
theorem upd_other (f : κ → Option Value) {x y : κ} (v : Option Value) (h : y ≠ x) : upd f x v y = f y := by simp [upd, h]

theorem MapG.set (h : MapG P k kv w b n f) (K : Keyed P k) (hinj : ∀ x y, kv x = kv y → x = y) (ht : P.underlying t = some (.map k e)) (hn : n < maxLen) {x : κ} {kl : Lit} (hx : keyOf P k (kv x) = some kl) (v : Value) :
    ∃ w', (Instr.mapUpdate t (.map (some b)) (kv x) v).run P w = .ok () w' ∧ MapG P k kv w' b (n + 1) (upd f x (some v)) ∧ w.grownBy w' (some b) := by
  obtain ⟨D, h, hD⟩ := h
  obtain ⟨w', hr, ho, hg⟩ := h.update K ht hn hx (val := v) (d := .held v) (ps := []) rfl
  refine ⟨w', hr, ⟨_, ho, fun y yl hy => ?_⟩, hg⟩
  by_cases hi : y = x
  · subst hi
    rw [hx] at hy
    cases hy
    rw [upd_same, has_put_same h.isMap (K.key hx)]
    refine ⟨by simp, fun u z hu => ?_⟩
    cases hu
    exact atKey_put_same h.isMap (K.key hx) _ _
  · have hne : yl ≠ kl := fun e => hi (hinj _ _ (K.inj (e ▸ hy) hx))
    rw [upd_other f (some v) hi, has_put_other hne]
    refine ⟨(hD y yl hy).1, fun u z hu => ?_⟩
    rw [atKey_put_other hne]
    exact (hD y yl hy).2 u z hu
theorem MapG.del (h : MapG P k kv w b n f) (K : Keyed P k) (hinj : ∀ x y, kv x = kv y → x = y) (ht : P.underlying t = some (.map k e)) {x : κ} {kl : Lit} (hx : keyOf P k (kv x) = some kl) (ty : TypeId) :
    ∃ w', (Builtin.delete_ #[t, k] ty #[.map (some b), kv x]).run P w = .ok (.tuple #[]) w' ∧ MapG P k kv w' b n (upd f x none) ∧ w.grownBy w' (some b) := by
  obtain ⟨D, h, hD⟩ := h
  obtain ⟨w', hr, ho, hg⟩ := h.drop K ht hx ty
  refine ⟨w', hr, ⟨_, ho, fun y yl hy => ?_⟩, hg.grown⟩
  by_cases hi : y = x
  · subst hi
    rw [hx] at hy
    cases hy
    rw [upd_same, has_del_same]
    exact ⟨rfl, by simp⟩
  · have hne : yl ≠ kl := fun e => hi (hinj _ _ (K.inj (e ▸ hy) hx))
    rw [upd_other f none hi, has_del_other hne]
    refine ⟨(hD y yl hy).1, fun u z hu => ?_⟩
    rw [atKey_del_other hne]
    exact (hD y yl hy).2 u z hu
end

section
variable {P : Program} {κ : Type} {ops : Array Oper} {rest : List Oper} {o : Oper} {a : Act} {Q : Exit → Act → World → Prop} {w : World} {F : Fence} {nF : Nat}
/-- 'v, ok := m[x]', for a walk. -/
theorem wpList_look_mapG (hg : o.guard = none) (m x : Operand) (t : TypeId) (hop : o.op = Op.lookup t m x true)
    (k e : TypeId) (K : Keyed P k) (ht : P.underlying t = some (.map k e)) (z : Value) (hz : (zeroValue e).run P w = .ok z w) (kv : κ → Value) (b n : Nat) (f : κ → Option Value)
    (hm : a.eval m = .map (some b)) (h : MapG P k kv w b n f) (j : κ) (kl : Lit) (hx : a.eval x = kv j) (hj : keyOf P k (kv j) = some kl) (v : Value) (c : Bool) (hv : (f j).getD z = v) (hc : (f j).isSome = c)
    (hK : wpList P ops Q rest (a.put o.dst (.tuple #[v, .bool c])) w) :
    wpList P ops Q (o :: rest) a w := by
  refine wpList_plain hg fun K' hK' => ?_
  have hrun := h.look K ht hz hj
  rw [hv, hc] at hrun
  unfold Oper.wp
  simp [execOp, hop, hm, hx, hrun, Result.andThen]
  exact hK' _ _ hK
theorem wpListIn_look_mapG (hg : o.guard = none) (m x : Operand) (t : TypeId) (hop : o.op = Op.lookup t m x true)
    (k e : TypeId) (K : Keyed P k) (ht : P.underlying t = some (.map k e)) (z : Value) (hz : (zeroValue e).run P w = .ok z w) (kv : κ → Value) (b n : Nat) (f : κ → Option Value)
    (hm : a.eval m = .map (some b)) (h : MapG P k kv w b n f) (j : κ) (kl : Lit) (hx : a.eval x = kv j) (hj : keyOf P k (kv j) = some kl) (v : Value) (c : Bool) (hv : (f j).getD z = v) (hc : (f j).isSome = c)
    (hK : wpListIn F nF P ops Q rest (a.put o.dst (.tuple #[v, .bool c])) w) :
    wpListIn F nF P ops Q (o :: rest) a w := by
  refine wpListIn_plain hg fun K' hK' => ?_
  have hrun := h.look K ht hz hj
  rw [hv, hc] at hrun
  unfold Oper.wpIn
  refine ⟨by simp [Oper.about, hop], ?_⟩
  rw [Oper.semAt_plain F _ _ (by rw [hop]; intro c hc'; cases hc')]
  simp [execOp, hop, hm, hx, hrun, Result.andThen]
  exact hK' _ _ hK
theorem wpList_get_mapG (hg : o.guard = none) (m x : Operand) (t : TypeId) (hop : o.op = Op.lookup t m x false)
    (k e : TypeId) (K : Keyed P k) (ht : P.underlying t = some (.map k e)) (z : Value) (hz : (zeroValue e).run P w = .ok z w) (kv : κ → Value) (b n : Nat) (f : κ → Option Value)
    (hm : a.eval m = .map (some b)) (h : MapG P k kv w b n f) (j : κ) (kl : Lit) (hx : a.eval x = kv j) (hj : keyOf P k (kv j) = some kl) (v : Value) (hv : (f j).getD z = v)
    (hK : wpList P ops Q rest (a.put o.dst v) w) :
    wpList P ops Q (o :: rest) a w := by
  refine wpList_plain hg fun K' hK' => ?_
  have hrun := h.get K ht hz hj
  rw [hv] at hrun
  unfold Oper.wp
  simp [execOp, hop, hm, hx, hrun, Result.andThen]
  exact hK' _ _ hK
/-- 'm[x] = v'. -/
theorem wpList_set_mapG (hg : o.guard = none) (m x v : Operand) (t : TypeId) (hop : o.op = Op.mapUpdate t m x v)
    (k e : TypeId) (K : Keyed P k) (kv : κ → Value) (hinj : ∀ x y, kv x = kv y → x = y) (ht : P.underlying t = some (.map k e)) (b n : Nat) (f : κ → Option Value)
    (hm : a.eval m = .map (some b)) (h : MapG P k kv w b n f) (hn : n < maxLen) (j : κ) (kl : Lit) (hx : a.eval x = kv j) (hj : keyOf P k (kv j) = some kl) (val : Value) (hv : a.eval v = val)
    (hK : ∀ w', MapG P k kv w' b (n + 1) (upd f j (some val)) → w.grownBy w' (some b) → wpList P ops Q rest (a.put o.dst undef) w') :
    wpList P ops Q (o :: rest) a w := by
  refine wpList_plain hg fun K' hK' => ?_
  obtain ⟨w', hrun, r1, r2⟩ := h.set K hinj ht hn hj val
  unfold Oper.wp
  simp [execOp, hop, hm, hx, hv, hrun, Result.andThen]
  exact hK' _ _ (hK w' r1 r2)
theorem wpListIn_set_mapG (hg : o.guard = none) (m x v : Operand) (t : TypeId) (hop : o.op = Op.mapUpdate t m x v)
    (k e : TypeId) (K : Keyed P k) (kv : κ → Value) (hinj : ∀ x y, kv x = kv y → x = y) (ht : P.underlying t = some (.map k e)) (b n : Nat) (f : κ → Option Value)
    (hm : a.eval m = .map (some b)) (h : MapG P k kv w b n f) (hn : n < maxLen) (j : κ) (kl : Lit) (hx : a.eval x = kv j) (hj : keyOf P k (kv j) = some kl) (val : Value) (hv : a.eval v = val)
    (hK : ∀ w', MapG P k kv w' b (n + 1) (upd f j (some val)) → w.grownBy w' (some b) → wpListIn F nF P ops Q rest (a.put o.dst undef) w') :
    wpListIn F nF P ops Q (o :: rest) a w := by
  refine wpListIn_plain hg fun K' hK' => ?_
  obtain ⟨w', hrun, r1, r2⟩ := h.set K hinj ht hn hj val
  unfold Oper.wpIn
  refine ⟨by simp [Oper.about, hop], ?_⟩
  rw [Oper.semAt_plain F _ _ (by rw [hop]; intro c hc'; cases hc')]
  simp [execOp, hop, hm, hx, hv, hrun, Result.andThen]
  exact hK' _ _ (hK w' r1 r2)
/-- 'delete(m, x)'. -/
theorem wpList_del_mapG (hg : o.guard = none) (m x : Operand) (t k : TypeId) (hop : o.op = Op.call { callee := Callee.builtin Builtin.delete, args := #[m, x], argTypes := #[t, k] })
    (e : TypeId) (K : Keyed P k) (kv : κ → Value) (hinj : ∀ x y, kv x = kv y → x = y) (ht : P.underlying t = some (.map k e)) (b n : Nat) (f : κ → Option Value)
    (hm : a.eval m = .map (some b)) (h : MapG P k kv w b n f) (j : κ) (kl : Lit) (hx : a.eval x = kv j) (hj : keyOf P k (kv j) = some kl)
    (hK : ∀ w', MapG P k kv w' b n (upd f j none) → w.grownBy w' (some b) → wpList P ops Q rest (a.put o.dst (.tuple #[])) w') :
    wpList P ops Q (o :: rest) a w := by
  refine wpList_plain hg fun K' hK' => ?_
  obtain ⟨w', hrun, r1, r2⟩ := h.del K hinj ht hj o.type
  unfold Oper.wp
  simp [execOp, hop, resolve, invoke, builtin, hm, hx, hrun, Result.andThen]
  exact hK' _ _ (hK w' r1 r2)
theorem wpListIn_del_mapG (hg : o.guard = none) (m x : Operand) (t k : TypeId) (hop : o.op = Op.call { callee := Callee.builtin Builtin.delete, args := #[m, x], argTypes := #[t, k] })
    (e : TypeId) (K : Keyed P k) (kv : κ → Value) (hinj : ∀ x y, kv x = kv y → x = y) (ht : P.underlying t = some (.map k e)) (b n : Nat) (f : κ → Option Value)
    (hm : a.eval m = .map (some b)) (h : MapG P k kv w b n f) (j : κ) (kl : Lit) (hx : a.eval x = kv j) (hj : keyOf P k (kv j) = some kl)
    (hK : ∀ w', MapG P k kv w' b n (upd f j none) → w.grownBy w' (some b) → wpListIn F nF P ops Q rest (a.put o.dst (.tuple #[])) w') :
    wpListIn F nF P ops Q (o :: rest) a w := by
  refine wpListIn_plain hg fun K' hK' => ?_
  obtain ⟨w', hrun, r1, r2⟩ := h.del K hinj ht hj o.type
  unfold Oper.wpIn
  refine ⟨by simp [Oper.about, hop, resolve, Target.leads, Sem.run_pure], ?_⟩
  rw [Oper.semAt_plain F _ _ (by rw [hop]; intro c hc'; cases hc')]
  simp [execOp, hop, resolve, invoke, builtin, hm, hx, hrun, Result.andThen]
  exact hK' _ _ (hK w' r1 r2)
end

theorem vint_inj (x y : Int) (h : Value.int .i64 x = .int .i64 y) : x = y := by cases h; rfl
/-- A struct of two numbers, or a row of two. -/
def two (x : Int × Int) : Value := .agg #[.int .i64 x.1, .int .i64 x.2]
theorem two_inj (x y : Int × Int) (h : two x = two y) : x = y := by
  obtain ⟨a, b⟩ := x
  obtain ⟨c, d⟩ := y
  unfold two at h
  simp at h
  rw [h.1, h.2]
end Go.Proofs.Ytkidkhjpijjphaa.base

/- What happened, attempt by attempt, in plain numbers: traces, tries, and in which order they come. Of no program, and of no memory. -/
namespace Go.Proofs.Ytkidkhjpijjphaa.base
open Go

/-- An event: kind, thread, transaction, attempt, object, value, reason. -/
structure Ev where
  k : Int
  th : Int
  tx : Int
  at_ : Int
  ob : Int
  va : Int
  re : Int
deriving Inhabited, DecidableEq

abbrev Evs := Nat → Ev

/-- Where the try of a thread that goes on ahead of a place began. -/
def opn (e : Evs) : Nat → Int → Option Nat
  | 0, _ => none
  | i + 1, th => if (e i).th = th then (if (e i).k = 1 then some i else if (e i).k = 5 ∨ (e i).k = 6 then none else opn e i th) else opn e i th

/-- The attempt of a transaction's last EvBegin ahead of a place. -/
def cnt (e : Evs) : Nat → Int → Int → Int
  | 0, _, _ => 0
  | i + 1, th, tx => if (e i).k = 1 ∧ (e i).th = th ∧ (e i).tx = tx then (e i).at_ else cnt e i th tx

/-- May the event at a place come? -/
def may (e : Evs) (i : Nat) : Bool :=
  match opn e i (e i).th with
  | none => ((e i).k == 1 && (e i).at_ == IntKind.i64.wrap (cnt e i (e i).th (e i).tx + 1)) || (e i).k == 7
  | some b => decide (2 ≤ (e i).k) && decide ((e i).k ≤ 6) && (e i).tx == (e b).tx && (e i).at_ == (e b).at_

def right (e : Evs) : Nat → Bool
  | 0 => true
  | i + 1 => right e i && may e i

/-- An access: place, kind, object, value; own; released. -/
structure Acc where
  pl : Int
  k : Int
  ob : Int
  va : Int
  own : Bool
  rel : Bool
deriving Inhabited, DecidableEq

structure Tr where
  th : Int
  tx : Int
  at_ : Int
  st : Int
  b : Int
  en : Int
  re : Int
  co : Bool
  ac : List Acc
deriving Inhabited, DecidableEq

def wrote (l : List Acc) (o : Int) : Bool := l.any fun a => decide (a.k = 3) && decide (a.ob = o)
/-- The places among the accesses of the readings of an object that aren't released. -/
def readsAt (o : Int) : Nat → List Acc → List Nat
  | _, [] => []
  | n, a :: l => if a.k = 2 ∧ a.ob = o ∧ a.rel = false then n :: readsAt o (n + 1) l else readsAt o (n + 1) l
def Acc.free (o : Int) (a : Acc) : Acc := if a.k = 2 ∧ a.ob = o then { a with rel := true } else a
def relAll (l : List Acc) (o : Int) : List Acc := l.map (Acc.free o)

def stepT (t : Tr) (i : Nat) (e : Ev) : Tr :=
  if e.k = 2 then { t with ac := t.ac ++ [⟨i, 2, e.ob, e.va, wrote t.ac e.ob, false⟩] }
  else if e.k = 3 then { t with ac := t.ac ++ [⟨i, 3, e.ob, e.va, false, false⟩] }
  else if e.k = 4 then { t with ac := relAll t.ac e.ob }
  else if e.k = 5 then { t with en := i, co := true }
  else if e.k = 6 then { t with en := i, re := e.re }
  else t

def init (b : Nat) (e : Ev) : Tr := ⟨e.th, e.tx, e.at_, e.va, b, -1, 0, false, []⟩

/-- The try that began at place b, as it is ahead of a place. -/
def trAt (e : Evs) (b : Nat) : Nat → Tr
  | 0 => init b (e b)
  | i + 1 => if b < i ∧ (e i).th = (e b).th ∧ (trAt e b i).en < 0 then stepT (trAt e b i) i (e i) else trAt e b i

/-- The tries that have ended ahead of a place, in that order, by their beginnings. -/
def ended (e : Evs) : Nat → List Nat
  | 0 => []
  | i + 1 => match opn e i (e i).th with
    | some b => if (e i).k = 5 ∨ (e i).k = 6 then ended e i ++ [b] else ended e i
    | none => ended e i

/-- The tries in the order of their beginnings. -/
def begins (e : Evs) (n : Nat) : List Nat := (List.range n).filter fun i => decide ((e i).k = 1)
def tries (e : Evs) (n : Nat) : List Tr := (begins e n).map fun b => trAt e b n
/-- Those that committed, in the order of their ends. -/
def comms (e : Evs) (n : Nat) : List Tr := (List.range n).filterMap fun i => if (e i).k = 5 then (opn e i (e i).th).map fun b => trAt e b n else none
def before (e : Evs) : Nat → Nat
  | 0 => 0
  | i + 1 => before e i + (if (e i).k = 5 then 1 else 0)

theorem stepT_fix (t : Tr) (i : Nat) (e : Ev) : (stepT t i e).th = t.th ∧ (stepT t i e).tx = t.tx ∧ (stepT t i e).at_ = t.at_ ∧ (stepT t i e).st = t.st ∧ (stepT t i e).b = t.b := by
  unfold stepT
  repeat' split
  all_goals exact ⟨rfl, rfl, rfl, rfl, rfl⟩
theorem stepT_en (t : Tr) (i : Nat) (e : Ev) : (stepT t i e).en = if e.k = 5 ∨ e.k = 6 then (i : Int) else t.en := by
  unfold stepT
  by_cases h2 : e.k = 2
  · simp [h2]
  by_cases h3 : e.k = 3
  · simp [h3]
  by_cases h4 : e.k = 4
  · simp [h4]
  by_cases h5 : e.k = 5
  · simp [h5]
  by_cases h6 : e.k = 6
  · simp [h6]
  simp [h2, h3, h4, h5, h6]

theorem trAt_fix (e : Evs) (b : Nat) : ∀ i, (trAt e b i).th = (e b).th ∧ (trAt e b i).tx = (e b).tx ∧ (trAt e b i).at_ = (e b).at_ ∧ (trAt e b i).st = (e b).va ∧ (trAt e b i).b = b
  | 0 => ⟨rfl, rfl, rfl, rfl, rfl⟩
  | i + 1 => by
    have h := trAt_fix e b i
    unfold trAt
    split
    · obtain ⟨h1, h2, h3, h4, h5⟩ := stepT_fix (trAt e b i) i (e i)
      exact ⟨h1.trans h.1, h2.trans h.2.1, h3.trans h.2.2.1, h4.trans h.2.2.2.1, h5.trans h.2.2.2.2⟩
    · exact h

theorem trAt_init (e : Evs) (b : Nat) : ∀ i, i ≤ b + 1 → trAt e b i = init b (e b)
  | 0, _ => rfl
  | i + 1, h => by
    unfold trAt
    rw [if_neg (by omega)]
    exact trAt_init e b i (by omega)

theorem opn_spec (e : Evs) : ∀ (i : Nat) (th : Int) (b : Nat), opn e i th = some b → b < i ∧ (e b).k = 1 ∧ (e b).th = th ∧ (trAt e b i).en = -1
  | 0, th, b, h => by simp [opn] at h
  | i + 1, th, b, h => by
    unfold opn at h
    have ih := opn_spec e i th b
    split at h
    · next hth =>
      split at h
      · next h1 =>
        cases h
        exact ⟨by omega, h1, hth, by rw [trAt_init _ _ _ (Nat.le_refl _)]; rfl⟩
      · next h1 =>
        split at h
        · cases h
        · next h56 =>
          obtain ⟨a1, a2, a3, a4⟩ := ih h
          refine ⟨by omega, a2, a3, ?_⟩
          rw [trAt]
          split
          · rw [stepT_en, if_neg h56, a4]
          · exact a4
    · next hth =>
      obtain ⟨a1, a2, a3, a4⟩ := ih h
      refine ⟨by omega, a2, a3, ?_⟩
      rw [trAt, if_neg (by rw [a3]; simp [hth]), a4]

/-- What an event of a thread that is at a try does to it. -/
theorem trAt_step (e : Evs) {i b : Nat} (h : opn e i (e i).th = some b) : trAt e b (i + 1) = stepT (trAt e b i) i (e i) := by
  obtain ⟨a1, a2, a3, a4⟩ := opn_spec e i _ b h
  rw [trAt]
  by_cases hb : b < i
  · rw [if_pos ⟨hb, a3.symm, by rw [a4]; omega⟩]
  · omega
theorem trAt_other (e : Evs) {i b : Nat} {th : Int} (h : opn e i th = some b) (hth : (e i).th ≠ th) : trAt e b (i + 1) = trAt e b i := by
  obtain ⟨a1, a2, a3, a4⟩ := opn_spec e i _ b h
  rw [trAt, if_neg (by rw [a3]; simp [hth])]

theorem trAt_done (e : Evs) (b : Nat) {i : Nat} (h : 0 ≤ (trAt e b i).en) : ∀ j, trAt e b (i + j) = trAt e b i
  | 0 => rfl
  | j + 1 => by
    have ih := trAt_done e b h j
    rw [← Nat.add_assoc, trAt, ih, if_neg (by omega)]
theorem trAt_end (e : Evs) (b : Nat) {i n : Nat} (h : 0 ≤ (trAt e b i).en) (hn : i ≤ n) : trAt e b n = trAt e b i := by
  have := trAt_done e b h (n - i)
  rwa [show i + (n - i) = n by omega] at this

/-- An end: the try that is open ends here. -/
theorem trAt_ends (e : Evs) {i b : Nat} (h : opn e i (e i).th = some b) (h56 : (e i).k = 5 ∨ (e i).k = 6) : (trAt e b (i + 1)).en = i := by
  rw [trAt_step e h, stepT_en, if_pos h56]

theorem right_le (e : Evs) {n : Nat} (h : right e n = true) : ∀ m, m ≤ n → right e m = true := by
  induction n with
  | zero => intro m hm; rw [show m = 0 by omega]; rfl
  | succ n ih =>
    intro m hm
    rw [right, Bool.and_eq_true] at h
    by_cases hmn : m = n + 1
    · subst hmn; rw [right, h.1, h.2]; rfl
    · exact ih h.1 m (by omega)
theorem right_may (e : Evs) {n : Nat} (h : right e n = true) {i : Nat} (hi : i < n) : may e i = true := by
  have := right_le e h (i + 1) (by omega)
  rw [right, Bool.and_eq_true] at this
  exact this.2

/-- What ended has its end where it was. -/
theorem ended_spec (e : Evs) : ∀ n, ∀ b ∈ ended e n, b < n ∧ (e b).k = 1 ∧ 0 ≤ (trAt e b n).en ∧ (trAt e b n).en < n ∧ opn e n (e b).th ≠ some b
  | 0, b, h => by simp [ended] at h
  | n + 1, b, h => by
    have ih := ended_spec e n
    have old : b ∈ ended e n → b < n + 1 ∧ (e b).k = 1 ∧ 0 ≤ (trAt e b (n + 1)).en ∧ (trAt e b (n + 1)).en < (n + 1 : Nat) ∧ opn e (n + 1) (e b).th ≠ some b := fun hm => by
      obtain ⟨a1, a2, a3, a4, a5⟩ := ih b hm
      rw [trAt_end e b a3 (Nat.le_succ n)]
      refine ⟨by omega, a2, a3, by omega, fun ho => ?_⟩
      have := (opn_spec e _ _ _ ho).2.2.2
      rw [trAt_end e b a3 (Nat.le_succ n)] at this
      omega
    unfold ended at h
    cases ho : opn e n (e n).th with
    | none => rw [ho] at h; exact old h
    | some c =>
      rw [ho] at h
      dsimp only at h
      split at h
      · next h56 =>
        rcases List.mem_append.1 h with h | h
        · exact old h
        · have hb : b = c := by simpa using h
          subst hb
          obtain ⟨a1, a2, a3, a4⟩ := opn_spec e _ _ _ ho
          have := trAt_ends e ho h56
          refine ⟨by omega, a2, by omega, by omega, fun h2 => ?_⟩
          have := (opn_spec e _ _ _ h2).2.2.2
          omega
      · exact old h

theorem ended_nodup (e : Evs) : ∀ n, (ended e n).Nodup
  | 0 => List.nodup_nil
  | n + 1 => by
    unfold ended
    cases ho : opn e n (e n).th with
    | none => exact ended_nodup e n
    | some c =>
      dsimp only
      split
      · refine List.nodup_append.2 ⟨ended_nodup e n, by simp, ?_⟩
        intro a ha b hb hab
        have hbc : b = c := by simpa using hb
        subst hbc; subst hab
        have h1 := ended_spec e n _ ha
        rw [(opn_spec e _ _ _ ho).2.2.1] at h1
        exact h1.2.2.2.2 ho
      · exact ended_nodup e n

/-- In a right trace each try has ended, or goes on. -/
theorem begun_all (e : Evs) : ∀ n, right e n = true → ∀ b, b < n → (e b).k = 1 → b ∈ ended e n ∨ opn e n (e b).th = some b
  | 0, _, b, hb, _ => by omega
  | n + 1, hr, b, hb, hk => by
    rw [right, Bool.and_eq_true] at hr
    have ih := begun_all e n hr.1 b
    have hm := hr.2
    unfold may at hm
    by_cases hbn : b = n
    · subst hbn
      right
      unfold opn
      rw [if_pos rfl, if_pos hk]
    · have keep : b ∈ ended e n → b ∈ ended e (n + 1) := fun h => by
        unfold ended
        cases ho : opn e n (e n).th with
        | none => exact h
        | some c =>
          dsimp only
          split
          · exact List.mem_append_left _ h
          · exact h
      rcases ih (by omega) hk with h | h
      · exact .inl (keep h)
      · by_cases hth : (e n).th = (e b).th
        · rw [← hth] at h
          rw [h] at hm
          by_cases h56 : (e n).k = 5 ∨ (e n).k = 6
          · left
            unfold ended
            rw [h]
            dsimp only
            rw [if_pos h56]
            simp
          · right
            have h1 : (e n).k ≠ 1 := by
              intro h1
              simp [h1] at hm
            unfold opn
            rw [if_pos hth, if_neg h1, if_neg h56, ← hth]
            exact h
        · right
          unfold opn
          rw [if_neg hth]
          exact h

theorem begins_mem (e : Evs) (n b : Nat) : b ∈ begins e n ↔ b < n ∧ (e b).k = 1 := by
  unfold begins
  simp
theorem begins_nodup (e : Evs) (n : Nat) : (begins e n).Nodup := List.nodup_range.filter _

/-- The ended ones and, in whatever order, those that go on: the tries of a right trace, all of them. -/
theorem all_perm (e : Evs) (n : Nat) (hr : right e n = true) (rest : List Nat) (hn : rest.Nodup) (hm : ∀ b, b ∈ rest ↔ ∃ th, opn e n th = some b) : (ended e n ++ rest).Perm (begins e n) := by
  have hno : ∀ b, b ∈ ended e n → b ∉ rest := fun b h1 h2 => by
    obtain ⟨th, h⟩ := (hm b).1 h2
    have h3 := ended_spec e n b h1
    rw [(opn_spec e _ _ _ h).2.2.1] at h3
    exact h3.2.2.2.2 h
  refine (List.perm_ext_iff_of_nodup (List.nodup_append.2 ⟨ended_nodup e n, hn, fun a ha b hb hab => hno a ha (hab ▸ hb)⟩) (begins_nodup e n)).2 fun b => ?_
  rw [begins_mem, List.mem_append]
  constructor
  · rintro (h | h)
    · have := ended_spec e n b h
      exact ⟨this.1, this.2.1⟩
    · obtain ⟨th, h⟩ := (hm b).1 h
      have := opn_spec e _ _ _ h
      exact ⟨this.1, this.2.1⟩
  · rintro ⟨h1, h2⟩
    rcases begun_all e n hr b h1 h2 with h | h
    · exact .inl h
    · exact .inr ((hm b).2 ⟨_, h⟩)

theorem tries_sorted (e : Evs) (n : Nat) : (tries e n).Pairwise (fun x y => x.b < y.b) := by
  unfold tries begins
  rw [List.pairwise_map]
  refine List.Pairwise.filter _ (List.pairwise_lt_range.imp ?_)
  intro a b h
  rw [(trAt_fix e a n).2.2.2.2, (trAt_fix e b n).2.2.2.2]
  omega

/-- Two rows of the same tries, the one sorted by a number that no two of the other one share: one row. -/
theorem sorted_one {α : Type} (f : α → Int) {d t : List α} (hp : d.Perm t) (ht : t.Pairwise (fun x y => f x < f y)) (hd : d.Pairwise (fun x y => ¬ f y < f x)) : d = t := by
  refine List.Perm.eq_of_pairwise (le := fun x y => f x ≤ f y) ?_ (hd.imp fun h => by omega) (ht.imp fun h => by omega) hp
  intro a b ha hb h1 h2
  have ha' := hp.mem_iff.1 ha
  obtain ⟨i, hi, rfl⟩ := List.mem_iff_getElem.1 ha'
  obtain ⟨j, hj, rfl⟩ := List.mem_iff_getElem.1 hb
  have hpw := List.pairwise_iff_getElem.1 ht
  rcases Nat.lt_trichotomy i j with h | h | h
  · have := hpw i j hi hj h; omega
  · subst h; rfl
  · have := hpw j i hj hi h; omega
end Go.Proofs.Ytkidkhjpijjphaa.base

/- Whether a trace is right: package hist's own (may, enter, Right). -/
namespace Go.Proofs.Ytkidkhjpijjphaa.hs
open Go Go.RowKit Go.Proofs.Ytkidkhjpijjphaa.base Go.Maps
set_option linter.unusedVariables false
set_option maxRecDepth 100000

/-- Its numbers are ints. -/
structure Ev.Wf (e : Ev) : Prop where
  k : (Lit.int .i64 e.k).wf = true
  th : (Lit.int .i64 e.th).wf = true
  tx : (Lit.int .i64 e.tx).wf = true
  at_ : (Lit.int .i64 e.at_).wf = true
  ob : (Lit.int .i64 e.ob).wf = true
  va : (Lit.int .i64 e.va).wf = true
  re : (Lit.int .i64 e.re).wf = true

/-- An event's cells. -/
def evc (e : Ev) : List Value := [.int .i64 e.k, .int .i64 e.th, .int .i64 e.tx, .int .i64 e.at_, .int .i64 e.ob, .int .i64 e.va, .int .i64 e.re]
def Ev.get (e : Ev) : Nat → Int
  | 0 => e.k
  | 1 => e.th
  | 2 => e.tx
  | 3 => e.at_
  | 4 => e.ob
  | 5 => e.va
  | _ => e.re

/-- The first n events of e lie there. -/
def IsEvs (w : World) (a : Option Addr) (n : Nat) (e : Evs) : Prop :=
  n = 0 ∨ ∃ b off, a = some ⟨b, off, none⟩ ∧ b < w.heap.size ∧ ∀ i, i < n → (∀ j, j < 7 → w.cell? ⟨b, off + (i * 7 + j), none⟩ = some (.int .i64 (Ev.get (e i) j))) ∧ Ev.Wf (e i)

theorem isEvs_of {w : World} {a : Option Addr} {len cap : Nat} {z : Nat → Nat → Int} (h : IsInts 7 w a len cap z) : IsEvs w a len (fun i => ⟨z i 0, z i 1, z i 2, z i 3, z i 4, z i 5, z i 6⟩) := by
  obtain ⟨_, _, h | ⟨b, off, rfl, hb, hc⟩⟩ := h
  · exact .inl h
  · refine .inr ⟨b, off, rfl, hb, fun i hi => ⟨fun j hj => ?_, ⟨(hc i 0 hi (by omega)).2, (hc i 1 hi (by omega)).2, (hc i 2 hi (by omega)).2, (hc i 3 hi (by omega)).2, (hc i 4 hi (by omega)).2, (hc i 5 hi (by omega)).2, (hc i 6 hi (by omega)).2⟩⟩⟩
    have h := (hc i j hi hj).1
    match j, hj with
    | 0, _ => exact h
    | 1, _ => exact h
    | 2, _ => exact h
    | 3, _ => exact h
    | 4, _ => exact h
    | 5, _ => exact h
    | 6, _ => exact h

section
variable {w w' : World} {a : Option Addr} {n : Nat} {e : Evs}
theorem IsEvs.below (h : IsEvs w a n e) {B : Nat} (g : Below B w w') (hb : w.heap.size ≤ B) : IsEvs w' a n e := by
  rcases h with h | ⟨b, off, rfl, hlt, hc⟩
  · exact .inl h
  · exact .inr ⟨b, off, rfl, Nat.lt_of_lt_of_le hlt g.size, fun i hi => ⟨fun j hj => (g.cell (p := ⟨b, off + (i * 7 + j), none⟩) (Nat.lt_of_lt_of_le hlt hb)).trans ((hc i hi).1 j hj), (hc i hi).2⟩⟩
theorem IsEvs.less (h : IsEvs w a n e) {m : Nat} (hm : m ≤ n) : IsEvs w a m e := by
  rcases h with h | ⟨b, off, rfl, hlt, hc⟩
  · exact .inl (by omega)
  · exact .inr ⟨b, off, rfl, hlt, fun i hi => hc i (by omega)⟩
theorem IsEvs.grown (h : IsEvs w a n e) (g : w.grownBy w' none) : IsEvs w' a n e := h.below (gb_below g) (Nat.le_refl _)
theorem IsEvs.at7 (h : IsEvs w a n e) {i : Nat} (hi : i < n) : ∃ b off, a = some ⟨b, off, none⟩ ∧ b < w.heap.size ∧ w.cell? ⟨b, off + i * 7, none⟩ = some (.int .i64 (e i).k) ∧ w.cell? ⟨b, off + i * 7 + 1, none⟩ = some (.int .i64 (e i).th) ∧ w.cell? ⟨b, off + i * 7 + 2, none⟩ = some (.int .i64 (e i).tx) ∧ w.cell? ⟨b, off + i * 7 + 3, none⟩ = some (.int .i64 (e i).at_) ∧ w.cell? ⟨b, off + i * 7 + 4, none⟩ = some (.int .i64 (e i).ob) ∧ w.cell? ⟨b, off + i * 7 + 5, none⟩ = some (.int .i64 (e i).va) ∧ w.cell? ⟨b, off + i * 7 + 6, none⟩ = some (.int .i64 (e i).re) ∧ Ev.Wf (e i) := by
  rcases h with h | ⟨b, off, rfl, hlt, hc⟩
  · omega
  · obtain ⟨h1, h2⟩ := hc i hi
    exact ⟨b, off, rfl, hlt, h1 0 (by omega), h1 1 (by omega), h1 2 (by omega), h1 3 (by omega), h1 4 (by omega), h1 5 (by omega), h1 6 (by omega), h2⟩
end

theorem laidOut17 : laidOutB Try.prog = true := by kernel_rfl
theorem rowTxn : (138 : TypeId) < Try.prog.types.size := of_decide_eq_true (by kernel_rfl)
theorem kTxn : Keyed Try.prog 138 := Keyed.of_law (deep_law_laid laidOut17 (m := 2) (by omega) rowTxn (by kernel_rfl) (by rw [Try.underlying138]))
theorem kInt : Keyed Try.prog 3 := int_keyed Try.underlying3
theorem keyInt {x : Int} (h : (Lit.int .i64 x).wf = true) : keyOf Try.prog 3 (.int .i64 x) = some (.int .i64 x) := keyOf_int_mk Try.underlying3 h
theorem keyTxn {x : Int × Int} (h1 : (Lit.int .i64 x.1).wf = true) (h2 : (Lit.int .i64 x.2).wf = true) : ∃ kl, keyOf Try.prog 138 (two x) = some kl := by
  have hkt : Try.prog.keyType 138 = true := by kernel_rfl
  have hc : Try.prog.cellsOf 138 = 2 := by kernel_rfl
  have hci : Try.prog.cellsOf 3 = 1 := by kernel_rfl
  have hs : Try.prog.types.size = (Try.prog.types.size - 1) + 1 := by kernel_rfl
  refine ⟨.string (keyBytes [.int .i64 x.1, .int .i64 x.2]), ?_⟩
  unfold keyOf two
  simp only [Try.underlying138]
  rw [if_pos (by simp [hkt, Value.formed, Try.underlying138, hc]), hs]
  unfold Program.keyLits
  simp only [Try.underlying138, Value.cells]
  have hk : ∀ (m : Nat) (v : Int), (Lit.int .i64 v).wf = true → Try.prog.keyLits (m + 1) 3 [.int .i64 v] = some [.int .i64 v] := fun m v h => by
    unfold Program.keyLits
    simp only [Try.underlying3]
    rw [if_pos ⟨trivial, h⟩]
  obtain ⟨m, hm⟩ : ∃ m, Try.prog.types.size - 1 + 1 = m + 1 + 1 := ⟨Try.prog.types.size - 2, by kernel_rfl⟩
  rw [if_pos (by rw [hc]; exact ⟨rfl, by kernel_rfl⟩)]
  simp only [List.mapM_cons, List.mapM_nil, hci]
  have e1 : Try.prog.types.size - 1 = m + 1 := by omega
  rw [e1]
  simp [hk, h1, h2]

theorem zeroEv (w : World) : (zeroValue 51).run Try.prog w = .ok (.agg #[.int .i64 0, .int .i64 0, .int .i64 0, .int .i64 0, .int .i64 0, .int .i64 0, .int .i64 0]) w := by kernel_rfl
theorem zeroInt (w : World) : (zeroValue 3).run Try.prog w = .ok (.int .i64 0) w := by kernel_rfl

/-- May this one come, where o began last and goes on, and c is what its transaction has counted? -/
def mayB (o : Option Ev) (c : Int) (e : Ev) : Bool :=
  match o with
  | none => (e.k == 1 && e.at_ == IntKind.i64.wrap (c + 1)) || e.k == 7
  | some b => decide (2 ≤ e.k) && decide (e.k ≤ 6) && e.tx == b.tx && e.at_ == b.at_

/-- What the book's first map has. -/
def opnV (o : Option Ev) : Option Value := o.map fun b => .agg ⟨evc b⟩

end Go.Proofs.Ytkidkhjpijjphaa.hs

/- One's own blocks: a list of blocks (their numbers, types and cells; a new one comes to the front) that were made since a world w0, and all that was there in w0 stands. Plain facts on memory, of no program. -/
namespace Go.Proofs.Ytkidkhjpijjphaa.base
open Go Go.RowKit

/-- w came of w0 by new blocks alone, and those of L are among them, with these cells. -/
structure Own (w0 w : World) (L : List (Nat × TypeId × List Value)) : Prop where
  grow : w0.grownBy w none
  blk : ∀ e ∈ L, w0.heap.size ≤ e.1 ∧ Blk e.2.1 w e.1 ⟨e.2.2⟩
  down : L.Pairwise (fun a b => a.1 ≠ b.1)

theorem Blk.at {w : World} {b : Nat} {t : TypeId} {cs : List Value} (h : Blk t w b ⟨cs⟩) (j : Nat) {v : Value} (hv : cs[j]? = some v) : w.cell? ⟨b, j, none⟩ = some v := by
  rw [h.cell j]
  simpa using hv
theorem size_alloc (w : World) (o : Obj) : (w.alloc o).heap.size = w.heap.size + 1 := by simp
theorem size_setCell (w : World) (p : Addr) (u : Value) : (w.setCell p u).heap.size = w.heap.size := by simp [World.setCell]

/-- Nor is the block behind the next one there yet. -/
theorem new_ne1 (w : World) (a : Addr) {u : Value} (h : w.cell? a = some u) : w.heap.size + 1 ≠ a.block := Nat.ne_of_gt (Nat.lt_succ_of_lt (World.block_lt_of_cell? w a h))

section
variable {w0 w w' : World} {L : List (Nat × TypeId × List Value)}
theorem Own.start (w : World) : Own w w [] := ⟨gb_refl w _, by simp, by simp⟩
theorem Own.drew (h : Own w0 w L) : Own w0 w.drew L := ⟨gb_drew h.grow, h.blk, h.down⟩
theorem Own.drewN (h : Own w0 w L) (n : Nat) : Own w0 (w.drewN n) L := ⟨gb_drewN h.grow n, h.blk, h.down⟩
theorem Own.size (h : Own w0 w L) : w0.heap.size ≤ w.heap.size := h.grow.size
theorem Own.grown (h : Own w0 w L) (g : w.grownBy w' none) : Own w0 w' L :=
  ⟨gb_trans h.grow g, fun e he => ⟨(h.blk e he).1, (h.blk e he).2.grown g (by simp)⟩, h.down⟩
theorem Own.skip (h : Own w0 w L) (o : Obj) : Own w0 (w.alloc o) L := h.grown (World.grownBy_alloc w o none)
theorem Own.alloc (h : Own w0 w L) (t : TypeId) (cs : List Value) : Own w0 (w.alloc (.cells ⟨cs⟩ t)) ((w.heap.size, t, cs) :: L) := by
  refine ⟨gb_alloc h.grow _, ?_, ?_⟩
  · intro e he
    rcases List.mem_cons.1 he with rfl | he
    · exact ⟨h.grow.size, Blk.made w t _⟩
    · exact ⟨(h.blk e he).1, (h.blk e he).2.alloc _⟩
  · exact List.pairwise_cons.2 ⟨fun e he => Nat.ne_of_gt (h.blk e he).2.lt, h.down⟩
theorem Own.get (h : Own w0 w L) (k : Nat) {b : Nat} {t : TypeId} {cs : List Value} (hk : L[k]? = some (b, t, cs)) : Blk t w b ⟨cs⟩ := (h.blk _ (List.mem_of_getElem? hk)).2
theorem Own.base (h : Own w0 w L) (k : Nat) {b : Nat} {t : TypeId} {cs : List Value} (hk : L[k]? = some (b, t, cs)) : w0.heap.size ≤ b := (h.blk _ (List.mem_of_getElem? hk)).1
theorem Own.lt (h : Own w0 w L) (k : Nat) {b : Nat} {t : TypeId} {cs : List Value} (hk : L[k]? = some (b, t, cs)) : b < w.heap.size := (h.get k hk).lt
theorem Own.cell (h : Own w0 w L) (k j : Nat) {b : Nat} {t : TypeId} {cs : List Value} {v : Value} (hk : L[k]? = some (b, t, cs)) (hv : cs[j]? = some v) : w.cell? ⟨b, j, none⟩ = some v := by
  rw [(h.get k hk).cell j]
  simpa using hv
theorem Own.free (h : Own w0 w L) (k j : Nat) {b : Nat} {t : TypeId} {cs : List Value} (hk : L[k]? = some (b, t, cs)) : w.frozen? ⟨b, j, none⟩ = false := (h.get k hk).free j
theorem Own.ne (h : Own w0 w L) (i k : Nat) {b c : Nat} {t u : TypeId} {cs ds : List Value} (hi : L[i]? = some (b, t, cs)) (hk : L[k]? = some (c, u, ds)) (hik : i ≠ k) : b ≠ c := by
  have := List.pairwise_iff_getElem.1 h.down
  obtain ⟨hi1, hi2⟩ := List.getElem?_eq_some_iff.1 hi
  obtain ⟨hk1, hk2⟩ := List.getElem?_eq_some_iff.1 hk
  rcases Nat.lt_or_gt_of_ne hik with l | l
  · have h3 := this i k hi1 hk1 l
    rw [hi2, hk2] at h3
    exact h3
  · have h3 := this k i hk1 hi1 l
    rw [hi2, hk2] at h3
    exact fun e => h3 e.symm
theorem Own.ne' (h : Own w0 w L) (i k : Nat) {b c : Nat} {t u : TypeId} {cs ds : List Value} (hi : L[i]? = some (b, t, cs)) (hk : L[k]? = some (c, u, ds)) (hik : i ≠ k) : b ≠ c ∧ c ≠ b :=
  ⟨h.ne i k hi hk hik, h.ne k i hk hi (Ne.symm hik)⟩
/-- Entry k alone was written. -/
theorem Own.change (h : Own w0 w L) (k : Nat) {b : Nat} {t : TypeId} {cs ds : List Value} (hk : L[k]? = some (b, t, cs)) (g : w.grownBy w' (some b)) (hb : Blk t w' b ⟨ds⟩) : Own w0 w' (L.set k (b, t, ds)) := by
  obtain ⟨hk1, hk2⟩ := List.getElem?_eq_some_iff.1 hk
  refine ⟨gb_over h.grow g (h.base k hk), ?_, ?_⟩
  · intro e he
    obtain ⟨i, hi⟩ := List.getElem?_of_mem he
    by_cases hik : k = i
    · subst hik
      rw [List.getElem?_set_self hk1] at hi
      cases hi
      exact ⟨h.base k hk, hb⟩
    · rw [List.getElem?_set_ne hik] at hi
      obtain ⟨c, u, es⟩ := e
      refine ⟨h.base i hi, (h.get i hi).grown g ?_⟩
      intro e1
      cases e1
      exact h.ne k i hk hi hik rfl
  · have hd := List.pairwise_iff_getElem.1 h.down
    refine List.pairwise_iff_getElem.2 fun i j hi hj hij => ?_
    have hi' : i < L.length := by simpa using hi
    have hj' : j < L.length := by simpa using hj
    have h0 := hd i j hi' hj' hij
    have key : ∀ m (hm : m < L.length) (hm2 : m < (L.set k (b, t, ds)).length), ((L.set k (b, t, ds))[m]).1 = (L[m]).1 := by
      intro m hm hm2
      by_cases hkm : k = m
      · subst hkm
        rw [List.getElem_set_self, hk2]
      · rw [List.getElem_set_ne hkm]
    rw [key i hi' hi, key j hj' hj]
    exact h0
theorem Own.set (h : Own w0 w L) (k j : Nat) (u : Value) {b : Nat} {t : TypeId} {cs : List Value} (hk : L[k]? = some (b, t, cs)) : Own w0 (w.setCell ⟨b, j, none⟩ u) (L.set k (b, t, cs.set j u)) :=
  h.change k hk (gb_setB (gb_refl _ _) u) (by simpa using (h.get k hk).set j u)
theorem Own.below (h : Own w0 w L) : Below w0.heap.size w0 w := gb_below h.grow
/-- What was there stays. -/
theorem Own.old (h : Own w0 w L) {p : Addr} {v : Value} (hc : w0.cell? p = some v) : w.cell? p = some v := h.grow.cell hc (by simp)
theorem Own.apart (h : Own w0 w L) (k : Nat) {b c : Nat} {t : TypeId} {cs : List Value} (hk : L[k]? = some (b, t, cs)) (hc : c < w0.heap.size) : c < b := Nat.lt_of_lt_of_le hc (h.base k hk)
theorem Own.perm (h : Own w0 w L) {M : List (Nat × TypeId × List Value)} (hp : List.Perm L M) : Own w0 w M :=
  ⟨h.grow, fun e he => h.blk e (hp.mem_iff.2 he), (hp.pairwise_iff (fun {_ _} e => Ne.symm e)).1 h.down⟩
theorem Own.swap {x y : Nat × TypeId × List Value} (h : Own w0 w (x :: y :: L)) : Own w0 w (y :: x :: L) := h.perm (List.Perm.swap y x L)
theorem Own.drop (h : Own w0 w L) {M : List (Nat × TypeId × List Value)} (hs : List.Sublist M L) : Own w0 w M := ⟨h.grow, fun e he => h.blk e (hs.mem he), h.down.sublist hs⟩
end
end Go.Proofs.Ytkidkhjpijjphaa.base

/- What a transaction does, as plain numbers: of no program. An operation is told by three numbers: kind, object, arg; a list by z : which one, which number. -/
namespace Go.Proofs.Ytkidkhjpijjphaa.lg
open Go Go.RowKit Go.Proofs.Ytkidkhjpijjphaa.base

/-- May it be, of n objects? -/
def okB (k o a n : Int) : Bool := if k = 3 ∨ k = 4 then decide (o = 0 ∧ -128 ≤ a ∧ a ≤ 127) else decide (1 ≤ k ∧ k ≤ 5 ∧ 0 ≤ o ∧ o < n ∧ a = 0)

theorem okB_obj {k o a : Int} {n : Nat} (h : okB k o a n = true) (hk : k = 1 ∨ k = 2) : ∃ i : Nat, o = i ∧ i < n := by
  unfold okB at h
  rw [if_neg (by omega)] at h
  simp at h
  exact ⟨o.toNat, by omega, by omega⟩
theorem okB_kind {k o a n : Int} (h : okB k o a n = true) : k = 1 ∨ k = 2 ∨ k = 3 ∨ k = 4 ∨ k = 5 := by
  unfold okB at h
  split at h
  · omega
  · simp at h; omega

/-- The first m may be. -/
def okN (z : Nat → Nat → Int) (n : Int) : Nat → Bool
  | 0 => true
  | m + 1 => okN z n m && okB (z m 0) (z m 1) (z m 2) n
theorem okN_at {z : Nat → Nat → Int} {n : Int} {m : Nat} (h : okN z n m = true) {i : Nat} (hi : i < m) : okB (z i 0) (z i 1) (z i 2) n = true := by
  induction m with
  | zero => omega
  | succ m ih =>
    simp only [okN, Bool.and_eq_true] at h
    by_cases e : i = m
    · subst e; exact h.2
    · exact ih h.1 (by omega)
theorem okN_of {z : Nat → Nat → Int} {n : Int} {m : Nat} (h : ∀ i, i < m → okB (z i 0) (z i 1) (z i 2) n = true) : okN z n m = true := by
  induction m with
  | zero => rfl
  | succ m ih =>
    simp only [okN, Bool.and_eq_true]
    exact ⟨ih fun i hi => h i (by omega), h m (by omega)⟩
theorem okN_false {z : Nat → Nat → Int} {n : Int} {m i : Nat} (hi : i < m) (h : okB (z i 0) (z i 1) (z i 2) n = false) : okN z n m = false := by
  cases e : okN z n m with
  | false => rfl
  | true => rw [okN_at e hi] at h; cases h
theorem okN_le {z : Nat → Nat → Int} {n : Int} {m k : Nat} (h : okN z n m = true) (hk : k ≤ m) : okN z n k = true := okN_of fun i hi => okN_at h (by omega)
theorem okN_first {z : Nat → Nat → Int} {n : Int} {m : Nat} (h : okN z n m = false) : ∃ i, i < m ∧ okN z n i = true ∧ okB (z i 0) (z i 1) (z i 2) n = false := by
  induction m with
  | zero => cases h
  | succ m ih =>
    cases e : okN z n m with
    | false =>
      obtain ⟨i, hi, h1, h2⟩ := ih e
      exact ⟨i, by omega, h1, h2⟩
    | true =>
      refine ⟨m, by omega, e, ?_⟩
      simpa [okN, e] using h

/-- Is it a transaction of n objects? -/
def rightB (z : Nat → Nat → Int) (m : Nat) (n : Int) : Bool := decide (0 < m) && decide (m < 9) && okN z n m

/-- The sum behind one. -/
def sumI (k a s : Int) : Int := if k = 3 then a else if k = 4 then wrap64 (s + a) else s

/-- The sum, and the values, behind the first k of them. -/
def run (z : Nat → Nat → Int) (v : Nat → Int) : Nat → Int × (Nat → Int)
  | 0 => (0, v)
  | k + 1 =>
    let p := run z v k
    if z k 0 = 1 then (p.2 (z k 1).toNat, p.2)
    else if z k 0 = 2 then (p.1, fun i => if i = (z k 1).toNat then p.1 else p.2 i)
    else (sumI (z k 0) (z k 2) p.1, p.2)

/-- How many of the first k read or write. -/
def opens (z : Nat → Nat → Int) : Nat → Nat
  | 0 => 0
  | k + 1 => opens z k + if z k 0 = 1 ∨ z k 0 = 2 then 1 else 0
theorem opens_le (z : Nat → Nat → Int) (k : Nat) : opens z k ≤ k := by
  induction k with
  | zero => exact Nat.le_refl _
  | succ k ih => unfold opens; split <;> omega

/-- The numbers of an operation's cells. -/
def opc (z : Nat → Int) : List Value := [.int .i64 (z 0), .int .i64 (z 1), .int .i64 (z 2)]

/-- The first n operations, as a row of cells. -/
def ops (z : Nat → Nat → Int) (n : Nat) : List Value := (List.range n).flatMap fun i => opc (z i)
theorem ops_succ (z : Nat → Nat → Int) (n : Nat) : ops z (n + 1) = ops z n ++ opc (z n) := by simp [ops, List.range_succ]
theorem ops_length (z : Nat → Nat → Int) (n : Nat) : (ops z n).length = n * 3 := by
  induction n with
  | zero => rfl
  | succ n ih => rw [ops_succ, List.length_append, ih]; simp [opc]; omega
theorem ops_get (z : Nat → Nat → Int) (n i j : Nat) (h : i < n) (hj : j < 3) : (ops z n)[i * 3 + j]? = some (.int .i64 (z i j)) := by
  induction n with
  | zero => omega
  | succ n ih =>
    have hl := ops_length z n
    rw [ops_succ]
    by_cases hi : i < n
    · rw [List.getElem?_append_left (by omega)]
      exact ih hi
    · obtain rfl : i = n := by omega
      rw [List.getElem?_append_right (by omega), hl, show i * 3 + j - i * 3 = j by omega]
      rcases (by omega : j = 0 ∨ j = 1 ∨ j = 2) with rfl | rfl | rfl <;> rfl
theorem ops_congr {z z' : Nat → Nat → Int} {n : Nat} (h : ∀ i j, i < n → j < 3 → z i j = z' i j) : ops z n = ops z' n := by
  induction n with
  | zero => rfl
  | succ n ih => rw [ops_succ, ops_succ, ih (fun i j hi hj => h i j (by omega) hj), opc, opc, h n 0 (by omega) (by omega), h n 1 (by omega) (by omega), h n 2 (by omega) (by omega)]

/-- A slice of operations, wherever it lies: z tells them. -/
def IsOps (w : World) (a : Option Addr) (n : Nat) (z : Nat → Nat → Int) : Prop :=
  n = 0 ∨ ∃ b off, a = some ⟨b, off, none⟩ ∧ b < w.heap.size ∧ ∀ i j, i < n → j < 3 → w.cell? ⟨b, off + (i * 3 + j), none⟩ = some (.int .i64 (z i j))
/-- A slice of numbers, wherever it lies. -/
def IsNums (k : IntKind) (w : World) (a : Option Addr) (n : Nat) (z : Nat → Int) : Prop :=
  n = 0 ∨ ∃ b off, a = some ⟨b, off, none⟩ ∧ b < w.heap.size ∧ ∀ i, i < n → w.cell? ⟨b, off + i, none⟩ = some (.int k (z i))

section
variable {w w' : World} {a : Option Addr} {n : Nat} {z : Nat → Nat → Int} {f : Nat → Int} {k : IntKind}
theorem IsOps.of_ints {cap : Nat} (h : IsInts 3 w a n cap z) : IsOps w a n z := by
  obtain ⟨_, _, h | ⟨b, off, rfl, hb, h⟩⟩ := h
  · exact .inl h
  · exact .inr ⟨b, off, rfl, hb, fun i j hi hj => (h i j hi hj).1⟩
theorem IsNums.of_row {cap : Nat} (h : IsRow k w a n cap f) : IsNums k w a n f := by
  obtain ⟨_, _, h | ⟨b, off, rfl, hb, h⟩⟩ := h
  · exact .inl h
  · exact .inr ⟨b, off, rfl, hb, fun i hi => (h i hi).1⟩
theorem IsOps.keep (h : IsOps w a n z) (g : ∀ b off, a = some ⟨b, off, none⟩ → b < w.heap.size → w'.heap[b]? = w.heap[b]?) (hs : w.heap.size ≤ w'.heap.size) : IsOps w' a n z := by
  rcases h with h | ⟨b, off, rfl, hb, h⟩
  · exact .inl h
  · exact .inr ⟨b, off, rfl, by omega, fun i j hi hj => (World.cell?_of_block (g b off rfl hb)).trans (h i j hi hj)⟩
theorem IsNums.keep (h : IsNums k w a n f) (g : ∀ b off, a = some ⟨b, off, none⟩ → b < w.heap.size → w'.heap[b]? = w.heap[b]?) (hs : w.heap.size ≤ w'.heap.size) : IsNums k w' a n f := by
  rcases h with h | ⟨b, off, rfl, hb, h⟩
  · exact .inl h
  · exact .inr ⟨b, off, rfl, by omega, fun i hi => (World.cell?_of_block (g b off rfl hb)).trans (h i hi)⟩
theorem IsOps.grown (h : IsOps w a n z) (g : w.grownBy w' none) : IsOps w' a n z := h.keep (fun b _ _ hb => g.block b hb (by simp)) g.size
theorem IsNums.grown (h : IsNums k w a n f) (g : w.grownBy w' none) : IsNums k w' a n f := h.keep (fun b _ _ hb => g.block b hb (by simp)) g.size
theorem IsOps.below (h : IsOps w a n z) (g : Below w.heap.size w w') : IsOps w' a n z := h.keep (fun b _ _ hb => g.block b hb) g.size
theorem IsNums.below (h : IsNums k w a n f) (g : Below w.heap.size w w') : IsNums k w' a n f := h.keep (fun b _ _ hb => g.block b hb) g.size
theorem IsOps.less (h : IsOps w a n z) {m : Nat} (hm : m ≤ n) : IsOps w a m z := by
  rcases h with h | ⟨b, off, rfl, hb, h⟩
  · exact .inl (by omega)
  · exact .inr ⟨b, off, rfl, hb, fun i j hi hj => h i j (by omega) hj⟩
theorem IsOps.congr (h : IsOps w a n z) {z' : Nat → Nat → Int} (e : ∀ i j, i < n → j < 3 → z i j = z' i j) : IsOps w a n z' := by
  rcases h with h | ⟨b, off, rfl, hb, h⟩
  · exact .inl h
  · exact .inr ⟨b, off, rfl, hb, fun i j hi hj => by rw [← e i j hi hj]; exact h i j hi hj⟩
theorem IsNums.congr (h : IsNums k w a n f) {f' : Nat → Int} (e : ∀ i, i < n → f i = f' i) : IsNums k w a n f' := by
  rcases h with h | ⟨b, off, rfl, hb, h⟩
  · exact .inl h
  · exact .inr ⟨b, off, rfl, hb, fun i hi => by rw [← e i hi]; exact h i hi⟩
/-- What one owns is one. -/
theorem IsOps.of_own {base : Nat} {e : TypeId} {cap : Nat} (h : w.ownsRow base e 3 (.slice a n cap) n (ops z n)) : IsOps w a n z := by
  rcases h.2 with ⟨_, h0⟩ | ⟨g, cap2, cur, e, hb, hg, _⟩
  · exact .inl h0
  · injection e with e1 e2 e3
    subst e1
    refine .inr ⟨g, 0, rfl, lt_of_block hg, fun i j hi hj => ?_⟩
    rw [Nat.zero_add]
    exact (h.cellAt (i * 3 + j) (by omega)).trans (ops_get z n i j hi hj)
theorem IsNums.of_own {base : Nat} {e : TypeId} {cap : Nat} (h : w.ownsRow base e 1 (.slice a n cap) n ((List.range n).map fun i => .int k (f i))) : IsNums k w a n f := by
  rcases h.2 with ⟨_, h0⟩ | ⟨g, cap2, cur, e, hb, hg, _⟩
  · exact .inl h0
  · injection e with e1 e2 e3
    subst e1
    refine .inr ⟨g, 0, rfl, lt_of_block hg, fun i hi => ?_⟩
    rw [Nat.zero_add]
    refine (h.cellAt i (by omega)).trans ?_
    simp [hi]
theorem IsOps.of_blk {t : TypeId} {b : Nat} (h : Blk t w b ⟨ops z n⟩) : IsOps w (some ⟨b, 0, none⟩) n z := by
  refine .inr ⟨b, 0, rfl, h.lt, fun i j hi hj => ?_⟩
  rw [Nat.zero_add, h.cell]
  simpa using ops_get z n i j hi hj
theorem IsNums.of_blk {t : TypeId} {b : Nat} (h : Blk t w b ⟨(List.range n).map fun i => Value.int k (f i)⟩) : IsNums k w (some ⟨b, 0, none⟩) n f := by
  refine .inr ⟨b, 0, rfl, h.lt, fun i hi => ?_⟩
  rw [Nat.zero_add, h.cell]
  simp [hi]
/-- One of them. -/
theorem IsOps.at3 (h : IsOps w a n z) {i : Nat} (hi : i < n) : ∃ b off, a = some ⟨b, off, none⟩ ∧ b < w.heap.size ∧ w.cell? ⟨b, off + i * 3, none⟩ = some (.int .i64 (z i 0)) ∧ w.cell? ⟨b, off + i * 3 + 1, none⟩ = some (.int .i64 (z i 1)) ∧ w.cell? ⟨b, off + i * 3 + 2, none⟩ = some (.int .i64 (z i 2)) := by
  rcases h with h | ⟨b, off, rfl, hb, h⟩
  · omega
  · exact ⟨b, off, rfl, hb, h i 0 hi (by omega), h i 1 hi (by omega), h i 2 hi (by omega)⟩
theorem IsNums.at1 (h : IsNums k w a n f) {i : Nat} (hi : i < n) : ∃ b off, a = some ⟨b, off, none⟩ ∧ b < w.heap.size ∧ w.cell? ⟨b, off + i, none⟩ = some (.int k (f i)) := by
  rcases h with h | ⟨b, off, rfl, hb, h⟩
  · omega
  · exact ⟨b, off, rfl, hb, h i hi⟩
/-- As the source of an append. -/
theorem IsOps.src (h : IsOps w a n z) : (n = 0 ∧ ops z n = []) ∨ ∃ ad, a = some ad ∧ ∀ j u, (ops z n)[j]? = some u → w.cell? (ad.add j) = some u := by
  rcases h with rfl | ⟨b, off, rfl, hb, h⟩
  · exact .inl ⟨rfl, rfl⟩
  · refine .inr ⟨_, rfl, fun j u hj => ?_⟩
    have hlt := (List.getElem?_eq_some_iff.1 hj).1
    rw [ops_length] at hlt
    have e : j = j / 3 * 3 + j % 3 := by omega
    rw [e, ops_get z n (j / 3) (j % 3) (by omega) (by omega)] at hj
    rw [add_eq, e]
    exact (h (j / 3) (j % 3) (by omega) (by omega)).trans hj
theorem IsNums.src (h : IsNums k w a n f) : (n = 0 ∧ ((List.range n).map fun i => Value.int k (f i)) = []) ∨ ∃ ad, a = some ad ∧ ∀ j u, ((List.range n).map fun i => Value.int k (f i))[j]? = some u → w.cell? (ad.add j) = some u := by
  rcases h with rfl | ⟨b, off, rfl, hb, h⟩
  · exact .inl ⟨rfl, rfl⟩
  · refine .inr ⟨_, rfl, fun j u hj => ?_⟩
    have hlt := (List.getElem?_eq_some_iff.1 hj).1
    simp only [List.length_map, List.length_range] at hlt
    simp [hlt] at hj
    rw [add_eq, ← hj]
    exact h j hlt
end

/-- The first n numbers of f, as bytes. -/
def u8s (f : Nat → Int) (n : Nat) : List Value := (List.range n).map fun i => Value.int .u8 (f i)
theorem u8s_succ3 (f : Nat → Int) (n : Nat) : u8s f (n + 3) = u8s f n ++ [.int .u8 (f n), .int .u8 (f (n + 1)), .int .u8 (f (n + 2))] := by simp [u8s, List.range_succ]
theorem u8s_length (f : Nat → Int) (n : Nat) : (u8s f n).length = n := by simp [u8s]
theorem u8s_congr {f g : Nat → Int} {n : Nat} (h : ∀ i, i < n → f i = g i) : u8s f n = u8s g n := List.map_congr_left fun i hi => by rw [h i (by simpa using hi)]
/-- The bytes of operations. -/
def pb (z : Nat → Nat → Int) (j : Nat) : Int := z (j / 3) (j % 3) % 256
theorem pb0 (z : Nat → Nat → Int) (k : Nat) : pb z (k * 3) = z k 0 % 256 := by unfold pb; rw [show k * 3 / 3 = k by omega, show k * 3 % 3 = 0 by omega]
theorem pb1 (z : Nat → Nat → Int) (k : Nat) : pb z (k * 3 + 1) = z k 1 % 256 := by unfold pb; rw [show (k * 3 + 1) / 3 = k by omega, show (k * 3 + 1) % 3 = 1 by omega]
theorem pb2 (z : Nat → Nat → Int) (k : Nat) : pb z (k * 3 + 2) = z k 2 % 256 := by unfold pb; rw [show (k * 3 + 2) / 3 = k by omega, show (k * 3 + 2) % 3 = 2 by omega]
/-- A byte of two's complement. -/
def s8 (x : Int) : Int := if 127 < x then x - 256 else x
/-- The operations of bytes. -/
def gz (f : Nat → Int) (i j : Nat) : Int := if j = 2 then s8 (f (i * 3 + 2)) else f (i * 3 + j)

theorem one_ops (z : Nat → Nat → Int) (n : Nat) : ∀ u ∈ ops z n, u.oneCell' = true := by
  intro u hu
  obtain ⟨i, _, hi⟩ := List.mem_flatMap.1 hu
  simp only [opc, List.mem_cons, List.not_mem_nil, or_false] at hi
  rcases hi with rfl | rfl | rfl <;> rfl
theorem one_nums (k : IntKind) (f : Nat → Int) (n : Nat) : ∀ u ∈ (List.range n).map (fun i => Value.int k (f i)), u.oneCell' = true := by
  intro u hu
  obtain ⟨_, _, rfl⟩ := List.mem_map.1 hu
  rfl

theorem ownsRow_drop {base base' : Nat} {e : TypeId} {sz : Nat} {w : World} {v : Value} {n : Nat} {xs : List Value} (h : w.ownsRow base e sz v n xs) (hb : base' ≤ base) : w.ownsRow base' e sz v n xs := by
  refine ⟨h.1, ?_⟩
  rcases h.2 with hn | ⟨g, cap, cur, rfl, h4, h5, rest⟩
  · exact .inl hn
  · exact .inr ⟨g, cap, cur, rfl, Nat.le_trans hb h4, h5, rest⟩
/-- How much room it has. -/
theorem row_cap {base : Nat} {e : TypeId} {sz : Nat} {w : World} {a : Option Addr} {n cap : Nat} {xs : List Value} (h : w.ownsRow base e sz (.slice a n cap) n xs) : n ≤ cap ∧ cap ≤ maxLen := by
  rcases h.2 with ⟨e, h0⟩ | ⟨g, c, cur, e, _, _, h6, h7, _⟩
  · injection e with _ e2 e3
    subst e3
    exact ⟨by omega, by unfold maxLen; omega⟩
  · injection e with _ e2 e3
    subst e3
    exact ⟨h6, h7⟩
theorem bytes_of {w : World} {a : Option Addr} {n cap : Nat} {f : Nat → Int} (h : IsRow .u8 w a n cap f) : ∀ i, i < n → 0 ≤ f i ∧ f i ≤ 255 := by
  intro i hi
  obtain ⟨_, _, h | ⟨b, off, rfl, _, h⟩⟩ := h
  · omega
  · exact bounds_u8 (h i hi).2

/-- A block that was made just now, as the source of an append. -/
theorem new_src (w : World) (l : List Value) (e : TypeId) (H : Nat) (h : w.heap.size = H) {m : Nat} : (m = 0 ∧ l = []) ∨ ∃ ad, (some ⟨H, 0, none⟩ : Option Addr) = some ad ∧ ∀ j u, l[j]? = some u → (w.alloc (.cells l.toArray e)).cell? (ad.add j) = some u := by
  subst h
  exact .inr ⟨_, rfl, fun j u hu => new_cells w l e j u hu⟩

/-- append onto a slice of one's own, of whatever slice, of nothing, too. -/
theorem run_append_any {P : Program} (w : World) (base : Nat) (t ty e : TypeId) (i : TypeInfo) (z : Value) (size bytes : Nat) (ht : P.underlying t = some (.slice e)) (hi : P.info? e = some i) (hz : i.zero = some z)
    (hsize : i.size = size) (hby : i.bytes = bytes) (hzs : z.cells.size = size) (hsz : 0 < size)
    (v : Value) (n : Nat) (xs : List Value) (hown : w.ownsRow base e size v n xs)
    (ao : Option Addr) (m c : Nat) (news : List Value) (hl : news.length = m * size) (hsrc : (m = 0 ∧ news = []) ∨ ∃ ad, ao = some ad ∧ ∀ j u, news[j]? = some u → w.cell? (ad.add j) = some u) (h1 : ∀ u ∈ news, u.oneCell' = true)
    (h63 : n + m ≤ maxLen) (hbytes : (n + m) * bytes ≤ 140737488355328) (hbase : base ≤ w.heap.size) :
    ∃ v' w', (Builtin.append_ #[t, t] ty #[v, .slice ao m c]).run P w = .ok v' w' ∧ w'.ownsRow base e size v' (n + m) (xs ++ news) ∧ w.grownBy w' v.ownBlock ∧
      (v'.ownBlock = v.ownBlock ∨ ∃ k, v'.ownBlock = some k ∧ w.heap.size ≤ k) := by
  by_cases hao : ∃ ad, ao = some ad
  · obtain ⟨ad, rfl⟩ := hao
    refine run_append_at w base t ty e i z size bytes ht hi hz hsize hby hzs hsz v n xs hown ad m c news hl ?_ h1 h63 hbytes hbase
    rcases hsrc with ⟨rfl, rfl⟩ | ⟨ad', e', h⟩
    · intro j u h'; simp at h'
    · cases e'; exact h
  · obtain rfl : ao = none := by
      cases ao with
      | none => rfl
      | some ad => exact absurd ⟨ad, rfl⟩ hao
    rcases hsrc with ⟨rfl, rfl⟩ | ⟨ad', e', h⟩
    · obtain ⟨sb, cap, rfl, hle⟩ : ∃ sb cap, v = .slice sb n cap ∧ n ≤ cap := by
        rcases hown.2 with ⟨rfl, rfl⟩ | ⟨g, cap, cur, rfl, _, _, hnc, _⟩
        · exact ⟨none, 0, rfl, Nat.le_refl _⟩
        · exact ⟨_, cap, rfl, hnc⟩
      subst hsize
      exact ⟨_, _, run_append_nothing (P := P) w t t ty e i ht hi sb n cap hle _ (Src.ofNil (P := P) w ht c), by simpa using hown, gb_refl _ _, .inl rfl⟩
    · cases e'

theorem wpList_append_any {P : Program} (w : World) {ops : Array Oper} {rest : List Oper} {o : Oper} {a : Act} {Q : Exit → Act → World → Prop}
    (hgd : o.guard = none) (s x : Operand) (t : TypeId) (hop : o.op = Op.call { callee := Callee.builtin Builtin.append, args := #[s, x], argTypes := #[t, t] })
    (base : Nat) (e : TypeId) (i : TypeInfo) (z : Value) (size bytes : Nat) (h1 : P.underlying t = some (.slice e)) (h2 : P.info? e = some i) (h3 : i.zero = some z) (h4 : i.size = size) (h5 : i.bytes = bytes) (h6 : z.cells.size = size) (h7 : 0 < size)
    (v : Value) (n : Nat) (xs : List Value) (hs : a.eval s = v) (hown : w.ownsRow base e size v n xs)
    (ao : Option Addr) (m c : Nat) (news : List Value) (hx : a.eval x = .slice ao m c) (hl : news.length = m * size) (hsrc : (m = 0 ∧ news = []) ∨ ∃ ad, ao = some ad ∧ ∀ j u, news[j]? = some u → w.cell? (ad.add j) = some u) (h1c : ∀ u ∈ news, u.oneCell' = true)
    (h63 : n + m ≤ maxLen) (hbytes : (n + m) * bytes ≤ 140737488355328) (hbase : base ≤ w.heap.size)
    (hK : ∀ b' cap w', w'.ownsRow base e size (.slice b' (n + m) cap) (n + m) (xs ++ news) → w.grownBy w' v.ownBlock → ((Value.slice b' (n + m) cap).ownBlock = v.ownBlock ∨ ∃ k, (Value.slice b' (n + m) cap).ownBlock = some k ∧ w.heap.size ≤ k) → wpList P ops Q rest (a.put o.dst (.slice b' (n + m) cap)) w') :
    wpList P ops Q (o :: rest) a w := by
  refine wpList_plain hgd fun K hK' => ?_
  obtain ⟨v', w', hrun, r1, r2, r3⟩ := run_append_any (P := P) w base t o.type e i z size bytes h1 h2 h3 h4 h5 h6 h7 v n xs hown ao m c news hl hsrc h1c h63 hbytes hbase
  obtain ⟨b', cap, rfl⟩ : ∃ b' cap, v' = .slice b' (n + m) cap := by
    rcases r1.2 with ⟨rfl, h0⟩ | ⟨g, cap, cur, rfl, _⟩
    · exact ⟨none, 0, by rw [h0]⟩
    · exact ⟨_, cap, rfl⟩
  unfold Oper.wp
  simp [execOp, hop, resolve, invoke, builtin, hs, hx, hrun, Result.andThen]
  exact hK' _ _ (hK b' cap w' r1 r2 r3)
end Go.Proofs.Ytkidkhjpijjphaa.lg

/- Lists of things of some cells each, as rows of cells; one's own blocks by their shape: plain facts, of no program. -/
namespace Go.Proofs.Ytkidkhjpijjphaa.base
open Go Go.RowKit Go.Proofs.Ytkidkhjpijjphaa.lg

/-- The cells of a list of things. -/
def rows {α : Type} (f : α → List Value) (l : List α) : List Value := l.flatMap f

/-- A list of blocks: their numbers, types, cells. -/
abbrev Blks := List (Nat × TypeId × List Value)

/-- A slice of things lies where a says. -/
def IsL {α : Type} (f : α → List Value) (w : World) (a : Option Addr) (l : List α) : Prop :=
  l = [] ∨ ∃ b off, a = some ⟨b, off, none⟩ ∧ b < w.heap.size ∧ ∀ j u, (rows f l)[j]? = some u → w.cell? ⟨b, off + j, none⟩ = some u

/-- v is a slice of one's own of the things of l, of type e, k cells each; its blocks are those of L: none or one. -/
def Row {α : Type} (f : α → List Value) (k : Nat) (e : TypeId) (l : List α) (v : Value) (L : Blks) : Prop :=
  (l = [] ∧ v = .slice none 0 0 ∧ L = []) ∨ ∃ g cap cur, v = .slice (some ⟨g, 0, none⟩) l.length cap ∧ L = [(g, e, cur)] ∧ l.length ≤ cap ∧ cap ≤ maxLen ∧ cur.length = cap * k ∧ cur.take (l.length * k) = rows f l

/-- Among one's own blocks stand some of this shape, in front of R. -/
def Has (S : Blks → Prop) (w0 w : World) (R : Blks) : Prop := ∃ X, S X ∧ Own w0 w (X ++ R)

section
variable {α : Type} {f : α → List Value} {k : Nat} {l : List α}
theorem rows_length (hf : ∀ x, (f x).length = k) (l : List α) : (rows f l).length = l.length * k := by
  induction l with
  | nil => simp [rows]
  | cons x l ih =>
    simp only [rows, List.flatMap_cons, List.length_append, List.length_cons] at *
    rw [ih, hf, Nat.add_mul]
    omega
theorem rows_append (l m : List α) : rows f (l ++ m) = rows f l ++ rows f m := by simp [rows]
theorem rows_one (x : α) : rows f [x] = f x := by simp [rows]
theorem rows_snoc (l : List α) (x : α) : rows f (l ++ [x]) = rows f l ++ f x := by simp [rows]
theorem rows_get (hf : ∀ x, (f x).length = k) : ∀ (l : List α) (j i : Nat) (x : α), l[j]? = some x → i < k → (rows f l)[j * k + i]? = (f x)[i]?
  | [], j, i, x, h, _ => by simp at h
  | y :: l, 0, i, x, h, hi => by
    simp at h
    subst h
    simp only [rows, List.flatMap_cons, Nat.zero_mul, Nat.zero_add]
    rw [List.getElem?_append_left (by rw [hf]; exact hi)]
  | y :: l, j + 1, i, x, h, hi => by
    have ih := rows_get hf l j i x (by simpa using h) hi
    simp only [rows, List.flatMap_cons]
    rw [List.getElem?_append_right (by rw [hf, Nat.succ_mul]; omega), hf, ← ih]
    simp only [rows]
    congr 1
    rw [Nat.succ_mul]
    omega
theorem rows_ext (hf : ∀ x, (f x).length = k) (hk : 0 < k) (l : List α) (cs : List Value) (hl : cs.length = l.length * k) (h : ∀ j i x, l[j]? = some x → i < k → cs[j * k + i]? = (f x)[i]?) : cs = rows f l := by
  apply List.ext_getElem?
  intro n
  by_cases hn : n < l.length * k
  · have e : n = n / k * k + n % k := (Nat.div_add_mod' n k).symm
    have hj : n / k < l.length := Nat.div_lt_of_lt_mul (by rw [Nat.mul_comm]; exact hn)
    rw [e, h _ _ _ (List.getElem?_eq_getElem hj) (Nat.mod_lt _ hk), rows_get hf _ _ _ _ (List.getElem?_eq_getElem hj) (Nat.mod_lt _ hk)]
  · rw [List.getElem?_eq_none (by omega), List.getElem?_eq_none (by rw [rows_length hf]; omega)]
theorem rows_one_cell (h1 : ∀ x, ∀ u ∈ f x, u.oneCell' = true) (l : List α) : ∀ u ∈ rows f l, u.oneCell' = true := by
  intro u hu
  obtain ⟨x, _, hx⟩ := List.mem_flatMap.1 hu
  exact h1 x u hx
end

section
variable {α : Type} {f : α → List Value} {k : Nat} {l l' : List α} {w w' w0 w1 : World} {a : Option Addr} {e : TypeId} {v v' : Value} {L R Q : Blks}
theorem IsL.keep (h : IsL f w a l) (g : ∀ b off, a = some ⟨b, off, none⟩ → b < w.heap.size → w'.heap[b]? = w.heap[b]?) (hs : w.heap.size ≤ w'.heap.size) : IsL f w' a l := by
  rcases h with h | ⟨b, off, rfl, hb, h⟩
  · exact .inl h
  · exact .inr ⟨b, off, rfl, by omega, fun j u hu => (World.cell?_of_block (g b off rfl hb)).trans (h j u hu)⟩
theorem IsL.grown (h : IsL f w a l) (g : w.grownBy w' none) : IsL f w' a l := h.keep (fun b _ _ hb => g.block b hb (by simp)) g.size
theorem IsL.below (h : IsL f w a l) (g : Below w.heap.size w w') : IsL f w' a l := h.keep (fun b _ _ hb => g.block b hb) g.size
theorem IsL.alloc (h : IsL f w a l) (o : Obj) : IsL f (w.alloc o) a l := h.grown (World.grownBy_alloc w o none)
theorem IsL.drew (h : IsL f w a l) : IsL f w.drew a l := h
theorem IsL.drewN (h : IsL f w a l) (n : Nat) : IsL f (w.drewN n) a l := h
theorem IsL.nil : IsL f w a [] := .inl rfl
theorem IsL.at (h : IsL f w a l) (hf : ∀ x, (f x).length = k) {j : Nat} {x : α} (hj : l[j]? = some x) : ∃ b off, a = some ⟨b, off, none⟩ ∧ b < w.heap.size ∧ ∀ i u, (f x)[i]? = some u → w.cell? ⟨b, off + j * k + i, none⟩ = some u := by
  rcases h with rfl | ⟨b, off, rfl, hb, h⟩
  · simp at hj
  · refine ⟨b, off, rfl, hb, fun i u hu => ?_⟩
    have hi : i < k := by have := (List.getElem?_eq_some_iff.1 hu).1; rw [hf] at this; exact this
    rw [Nat.add_assoc]
    exact h _ _ ((rows_get hf l j i x hj hi).trans hu)
theorem IsL.src (h : IsL f w a l) : (l.length = 0 ∧ rows f l = []) ∨ ∃ ad, a = some ad ∧ ∀ j u, (rows f l)[j]? = some u → w.cell? (ad.add j) = some u := by
  rcases h with rfl | ⟨b, off, rfl, hb, h⟩
  · exact .inl ⟨rfl, rfl⟩
  · exact .inr ⟨_, rfl, fun j u hu => by rw [add_eq]; exact h j u hu⟩
theorem IsL.of_own {base n cap : Nat} (h : w.ownsRow base e k (.slice a n cap) n (rows f l)) (hf : ∀ x, (f x).length = k) (hn : n = l.length) : IsL f w a l := by
  rcases h.2 with ⟨_, h0⟩ | ⟨g, cap2, cur, e, hb, hg, _⟩
  · exact .inl (List.eq_nil_of_length_eq_zero (by omega))
  · injection e with e1 e2 e3
    subst e1
    refine .inr ⟨g, 0, rfl, lt_of_block hg, fun j u hu => ?_⟩
    have hj : j < n * k := by have := (List.getElem?_eq_some_iff.1 hu).1; rw [rows_length hf] at this; rw [hn]; exact this
    rw [Nat.zero_add]
    exact (h.cellAt j hj).trans hu

theorem Own.fresh (h : Own w0 w R) (g : w.grownBy w' none) {q : Nat} {cur : List Value} (hq : w.heap.size ≤ q) (hb : Blk e w' q ⟨cur⟩) : Own w0 w' ((q, e, cur) :: R) := by
  refine ⟨gb_trans h.grow g, ?_, ?_⟩
  · intro x hx
    rcases List.mem_cons.1 hx with rfl | hx
    · exact ⟨Nat.le_trans h.grow.size hq, hb⟩
    · exact ⟨(h.blk x hx).1, (h.blk x hx).2.grown g (by simp)⟩
  · exact List.pairwise_cons.2 ⟨fun x hx => Nat.ne_of_gt (Nat.lt_of_lt_of_le (h.blk x hx).2.lt hq), h.down⟩
/-- The first one was written, whatever it is now. -/
theorem Own.lose {b : Nat} {t : TypeId} {cs : List Value} (h : Own w0 w ((b, t, cs) :: R)) (g : w.grownBy w' (some b)) : Own w0 w' R := by
  have hd := List.pairwise_cons.1 h.down
  refine ⟨gb_over h.grow g (h.base 0 rfl), fun x hx => ⟨(h.blk x (List.mem_cons_of_mem _ hx)).1, (h.blk x (List.mem_cons_of_mem _ hx)).2.grown g ?_⟩, hd.2⟩
  intro e1
  cases e1
  exact hd.1 x hx rfl
theorem Own.mid {b : Nat × TypeId × List Value} : Own w0 w (b :: (L ++ R)) ↔ Own w0 w (L ++ (b :: R)) := ⟨fun h => h.perm List.perm_middle.symm, fun h => h.perm List.perm_middle⟩
theorem Own.comm {A B : Blks} (h : Own w0 w (A ++ (B ++ R))) : Own w0 w (B ++ (A ++ R)) := h.perm (by rw [← List.append_assoc, ← List.append_assoc]; exact List.perm_append_comm.append_right R)

theorem Row.owns (h : Row f k e l v L) (hf : ∀ x, (f x).length = k) (o : Own w0 w (L ++ R)) : w.ownsRow w0.heap.size e k v l.length (rows f l) := by
  refine ⟨rows_length hf l, ?_⟩
  rcases h with ⟨rfl, rfl, rfl⟩ | ⟨g, cap, cur, rfl, rfl, h1, h2, h3, h4⟩
  · exact .inl ⟨rfl, rfl⟩
  · exact .inr ⟨g, cap, ⟨cur⟩, rfl, o.base 0 rfl, o.get 0 rfl, h1, h2, by simpa using h3, by simpa using h4⟩
theorem Row.slice (h : Row f k e l v L) : ∃ a cap, v = .slice a l.length cap := by
  rcases h with ⟨rfl, rfl, rfl⟩ | ⟨g, cap, cur, rfl, rfl, _⟩
  · exact ⟨none, 0, rfl⟩
  · exact ⟨_, cap, rfl⟩
theorem Row.isL (h : Row f k e l v L) (hf : ∀ x, (f x).length = k) (o : Own w0 w (L ++ R)) : ∃ a cap, v = .slice a l.length cap ∧ IsL f w a l := by
  obtain ⟨a, cap, rfl⟩ := h.slice
  exact ⟨a, cap, rfl, IsL.of_own (h.owns hf o) hf rfl⟩
theorem Row.nil : Row f k e ([] : List α) (.slice none 0 0) [] := .inl ⟨rfl, rfl, rfl⟩
theorem Row.of_own {base n : Nat} (o : Own w0 w R) (g : w.grownBy w' none) (h : w'.ownsRow base e k v n (rows f l)) (hb : w.heap.size ≤ base) (hn : n = l.length) : ∃ L, Row f k e l v L ∧ Own w0 w' (L ++ R) := by
  subst hn
  rcases h.2 with ⟨rfl, h0⟩ | ⟨q, cap, cur, rfl, hq, hg, h1, h2, h3, h4⟩
  · exact ⟨[], .inl ⟨List.eq_nil_of_length_eq_zero h0, rfl, rfl⟩, o.grown g⟩
  · exact ⟨[(q, e, cur.toList)], .inr ⟨q, cap, cur.toList, rfl, rfl, h1, h2, by simpa using h3, h4⟩, o.fresh g (Nat.le_trans hb hq) hg⟩
/-- It was appended to. -/
theorem Row.grow {n : Nat} (h : Row f k e l v L) (o : Own w0 w (L ++ R)) (h' : w1.ownsRow w0.heap.size e k v' n (rows f l')) (hn : n = l'.length) (g : w.grownBy w1 v.ownBlock) (hv : v'.ownBlock = v.ownBlock ∨ ∃ q, v'.ownBlock = some q ∧ w.heap.size ≤ q) :
    ∃ L', Row f k e l' v' L' ∧ Own w0 w1 (L' ++ R) := by
  subst hn
  rcases h'.2 with ⟨rfl, h0⟩ | ⟨q, cap, cur, rfl, hq, hg, h1, h2, h3, h4⟩
  · refine ⟨[], .inl ⟨List.eq_nil_of_length_eq_zero h0, rfl, rfl⟩, ?_⟩
    rcases h with ⟨rfl, rfl, rfl⟩ | ⟨g0, cap0, cur0, rfl, rfl, _⟩
    · exact o.grown g
    · exact Own.lose o g
  · refine ⟨[(q, e, cur.toList)], .inr ⟨q, cap, cur.toList, rfl, rfl, h1, h2, by simpa using h3, h4⟩, ?_⟩
    rcases h with ⟨rfl, rfl, rfl⟩ | ⟨g0, cap0, cur0, rfl, rfl, _⟩
    · rcases hv with hv | ⟨q', hv, hq'⟩
      · simp [Value.ownBlock] at hv
      · simp only [Value.ownBlock, Option.some.injEq] at hv
        subst hv
        exact Own.fresh o g hq' hg
    · rcases hv with hv | ⟨q', hv, hq'⟩
      · simp only [Value.ownBlock, Option.some.injEq] at hv
        subst hv
        exact o.change 0 rfl g hg
      · simp only [Value.ownBlock, Option.some.injEq] at hv
        subst hv
        have o2 := Own.lose o g
        refine ⟨o2.grow, ?_, ?_⟩
        · intro x hx
          rcases List.mem_cons.1 hx with rfl | hx
          · exact ⟨hq, hg⟩
          · exact o2.blk x hx
        · exact List.pairwise_cons.2 ⟨fun x hx => Nat.ne_of_gt (Nat.lt_of_lt_of_le (o.blk x (List.mem_cons_of_mem _ hx)).2.lt hq'), o2.down⟩
/-- One thing was appended. -/
theorem Row.snoc {x : α} {w2 : World} {g' c' : Nat} (h : Row f k e l v L) (o : Own w0 w (L ++ R)) (hw : w.grownBy w2 none) (ho : w1.ownsRow w0.heap.size e k (.slice (some ⟨g', 0, none⟩) (l.length + 1) c') (l.length + 1) (rows f l ++ f x)) (hg : w2.grownBy w1 v.ownBlock) (hv : some g' = v.ownBlock ∨ w2.heap.size ≤ g') :
    ∃ L', Row f k e (l ++ [x]) (.slice (some ⟨g', 0, none⟩) (l.length + 1) c') L' ∧ Own w0 w1 (L' ++ R) :=
  Row.grow h (o.grown hw) (by rw [rows_snoc]; exact ho) (by simp) hg (hv.elim .inl (fun h => .inr ⟨g', rfl, h⟩))
/-- Its cells were written. -/
theorem Row.write {g cap : Nat} {cur' : List Value} (h : Row f k e l (.slice (some ⟨g, 0, none⟩) l.length cap) L) (o : Own w0 w (L ++ R)) (hg : w.grownBy w1 (some g)) (hb : Blk e w1 g ⟨cur'⟩) (hl : cur'.length = cap * k) (hn : l'.length ≤ cap) (ht : cur'.take (l'.length * k) = rows f l') :
    ∃ L', Row f k e l' (.slice (some ⟨g, 0, none⟩) l'.length cap) L' ∧ Own w0 w1 (L' ++ R) := by
  rcases h with ⟨rfl, h, rfl⟩ | ⟨g0, cap0, cur0, h, rfl, h1, h2, h3, h4⟩
  · cases h
  · injection h with e1 e2 e3
    injection e1 with e1
    injection e1 with e1
    subst e1; subst e3
    exact ⟨[(g, e, cur')], .inr ⟨g, cap, cur', rfl, rfl, hn, h2, hl, ht⟩, o.change 0 rfl hg hb⟩
theorem Row.open {g cap : Nat} (h : Row f k e l (.slice (some ⟨g, 0, none⟩) l.length cap) L) (o : Own w0 w (L ++ R)) : ∃ cur, Blk e w g ⟨cur⟩ ∧ cur.length = cap * k ∧ l.length ≤ cap ∧ cap ≤ maxLen ∧ cur.take (l.length * k) = rows f l := by
  rcases h with ⟨rfl, h, rfl⟩ | ⟨g0, cap0, cur0, h, rfl, h1, h2, h3, h4⟩
  · cases h
  · injection h with e1 e2 e3
    injection e1 with e1
    injection e1 with e1
    subst e1; subst e3
    exact ⟨cur0, o.get 0 rfl, h3, h1, h2, h4⟩
theorem Row.some (h : Row f k e l v L) (hn : 0 < l.length) : ∃ g cap, v = .slice (some ⟨g, 0, none⟩) l.length cap := by
  rcases h with ⟨rfl, rfl, rfl⟩ | ⟨g, cap, cur, rfl, _⟩
  · simp at hn
  · exact ⟨g, cap, rfl⟩
end

section
variable {S S' : Blks → Prop} {w0 w w' : World} {R M : Blks}
theorem Has.own (h : Has S w0 w R) : Own w0 w R := by
  obtain ⟨X, _, o⟩ := h
  exact o.drop (List.sublist_append_right _ _)
theorem Has.grown (h : Has S w0 w R) (g : w.grownBy w' none) : Has S w0 w' R := by
  obtain ⟨X, hX, o⟩ := h
  exact ⟨X, hX, o.grown g⟩
theorem Has.drew (h : Has S w0 w R) : Has S w0 w.drew R := by
  obtain ⟨X, hX, o⟩ := h
  exact ⟨X, hX, o.drew⟩
theorem Has.drewN (h : Has S w0 w R) (n : Nat) : Has S w0 (w.drewN n) R := by
  obtain ⟨X, hX, o⟩ := h
  exact ⟨X, hX, o.drewN n⟩
theorem Has.skip (h : Has S w0 w R) (o : Obj) : Has S w0 (w.alloc o) R := h.grown (World.grownBy_alloc w o none)
theorem Has.alloc (h : Has S w0 w R) (t : TypeId) (cs : List Value) : Has S w0 (w.alloc (.cells ⟨cs⟩ t)) ((w.heap.size, t, cs) :: R) := by
  obtain ⟨X, hX, o⟩ := h
  exact ⟨X, hX, Own.mid.1 (o.alloc t cs)⟩
theorem Has.change (h : Has S w0 w R) (k : Nat) {c : Nat} {t : TypeId} {cs ds : List Value} (hk : R[k]? = some (c, t, cs)) (g : w.grownBy w' (some c)) (hb : Blk t w' c ⟨ds⟩) : Has S w0 w' (R.set k (c, t, ds)) := by
  obtain ⟨X, hX, o⟩ := h
  refine ⟨X, hX, ?_⟩
  have := o.change (X.length + k) (by rw [List.getElem?_append_right (by omega)]; simpa using hk) g hb
  rw [List.set_append, if_neg (by omega)] at this
  simpa using this
theorem Has.set (h : Has S w0 w R) (k j : Nat) (u : Value) {c : Nat} {t : TypeId} {cs : List Value} (hk : R[k]? = some (c, t, cs)) : Has S w0 (w.setCell ⟨c, j, none⟩ u) (R.set k (c, t, cs.set j u)) :=
  h.change k hk (gb_setB (gb_refl _ _) u) (by simpa using (h.own.get k hk).set j u)
theorem Has.drop (h : Has S w0 w R) (hs : List.Sublist M R) : Has S w0 w M := by
  obtain ⟨X, hX, o⟩ := h
  exact ⟨X, hX, o.drop (List.Sublist.append (List.Sublist.refl _) hs)⟩
theorem Has.perm (h : Has S w0 w R) (hp : List.Perm R M) : Has S w0 w M := by
  obtain ⟨X, hX, o⟩ := h
  exact ⟨X, hX, o.perm (hp.append_left X)⟩
theorem Has.below (h : Has S w0 w R) : Below w0.heap.size w0 w := h.own.below
theorem Has.grow (h : Has S w0 w R) : w0.grownBy w none := h.own.grow
theorem Has.size (h : Has S w0 w R) : w0.heap.size ≤ w.heap.size := h.own.size
theorem Has.old (h : Has S w0 w R) {p : Addr} {v : Value} (hc : w0.cell? p = some v) : w.cell? p = some v := h.own.old hc
theorem Has.get (h : Has S w0 w R) (k : Nat) {c : Nat} {t : TypeId} {cs : List Value} (hk : R[k]? = some (c, t, cs)) : Blk t w c ⟨cs⟩ := h.own.get k hk
theorem Has.lt (h : Has S w0 w R) (k : Nat) {c : Nat} {t : TypeId} {cs : List Value} (hk : R[k]? = some (c, t, cs)) : c < w.heap.size := h.own.lt k hk
theorem Has.cell (h : Has S w0 w R) (k j : Nat) {c : Nat} {t : TypeId} {cs : List Value} {v : Value} (hk : R[k]? = some (c, t, cs)) (hv : cs[j]? = some v) : w.cell? ⟨c, j, none⟩ = some v := h.own.cell k j hk hv
theorem Has.free (h : Has S w0 w R) (k j : Nat) {c : Nat} {t : TypeId} {cs : List Value} (hk : R[k]? = some (c, t, cs)) : w.frozen? ⟨c, j, none⟩ = false := h.own.free k j hk
theorem Has.ne' (h : Has S w0 w R) (i k : Nat) {c d : Nat} {t u : TypeId} {cs ds : List Value} (hi : R[i]? = some (c, t, cs)) (hk : R[k]? = some (d, u, ds)) (hik : i ≠ k) : c ≠ d ∧ d ≠ c := h.own.ne' i k hi hk hik
/-- One shape behind another. -/
def Both (S S' : Blks → Prop) : Blks → Prop := fun X => ∃ A B, S A ∧ S' B ∧ X = A ++ B
theorem Has.left (h : Has (Both S S') w0 w R) : ∃ B, S' B ∧ Has S w0 w (B ++ R) := by
  obtain ⟨_, ⟨A, B, hA, hB, rfl⟩, o⟩ := h
  exact ⟨B, hB, A, hA, by simpa using o⟩
theorem Has.right (h : Has (Both S S') w0 w R) : ∃ A, S A ∧ Has S' w0 w (A ++ R) := by
  obtain ⟨_, ⟨A, B, hA, hB, rfl⟩, o⟩ := h
  exact ⟨A, hA, B, hB, Own.comm (by simpa using o)⟩
theorem Has.ofLeft {B : Blks} (hB : S' B) (h : Has S w0 w (B ++ R)) : Has (Both S S') w0 w R := by
  obtain ⟨A, hA, o⟩ := h
  exact ⟨A ++ B, ⟨A, B, hA, hB, rfl⟩, by simpa using o⟩
theorem Has.ofRight {A : Blks} (hA : S A) (h : Has S' w0 w (A ++ R)) : Has (Both S S') w0 w R := by
  obtain ⟨B, hB, o⟩ := h
  exact ⟨A ++ B, ⟨A, B, hA, hB, rfl⟩, by have := Own.comm o; simpa using this⟩
/-- Two of them: the other one in front. -/
theorem Has.turn (h : Has S w0 w (M ++ R)) (hM : S' M) : ∃ X, S X ∧ Has S' w0 w (X ++ R) := by
  obtain ⟨X, hX, o⟩ := h
  exact ⟨X, hX, M, hM, o.comm⟩
end
end Go.Proofs.Ytkidkhjpijjphaa.base

/- A try on its way (hist's going): where it lies. -/
namespace Go.Proofs.Ytkidkhjpijjphaa.hs
open Go Go.RowKit Go.Proofs.Ytkidkhjpijjphaa.base Go.Maps
set_option linter.unusedVariables false
set_option maxRecDepth 100000

def accC (a : Acc) : List Value := [.int .i64 a.pl, .int .i64 a.k, .int .i64 a.ob, .int .i64 a.va, .bool a.own, .bool a.rel]
theorem accC_len (a : Acc) : (accC a).length = 6 := rfl
theorem accC_one (l : List Acc) : ∀ u ∈ rows accC l, u.oneCell' = true := by
  intro u hu
  unfold rows at hu
  obtain ⟨a, _, h⟩ := List.mem_flatMap.1 hu
  simp [accC] at h
  rcases h with rfl | rfl | rfl | rfl | rfl | rfl <;> rfl
def trC (t : Tr) (v : Value) : List Value := [.int .i64 t.th, .int .i64 t.tx, .int .i64 t.at_, .int .i64 t.st, .int .i64 t.b, .int .i64 t.en, .int .i64 t.re, .bool t.co, v]

/-- F, and the blocks that are new. -/
def Up (F : Nat → Prop) (w w' : World) : Nat → Prop := fun k => F k ∨ (w.heap.size ≤ k ∧ k < w'.heap.size)
theorem Up.old {F : Nat → Prop} {w w' : World} {k : Nat} (h : F k) : Up F w w' k := .inl h

def wroteV (W : Int → Bool) : Int → Option Value := fun o => if W o then some (.bool true) else none
def natV (n : Nat) : Value := .int .i64 n

/-- Block b is a try on its way, as t says; W says what it wrote, R the places of its readings of an object that aren't released; all of it in the blocks of F. -/
structure GngP (w : World) (F : Nat → Prop) (b : Nat) (t : Tr) (W : Int → Bool) (R : Int → List Nat) (N : Nat) (v : Value) (wm rm : Nat) (rd : Int → Option Value) : Prop where
  blk : Blk 131 w b ⟨trC t v ++ [.map (some wm), .map (some rm)]⟩
  row : w.ownsRow 0 48 6 v t.ac.length (rows accC t.ac)
  wmap : MapG Try.prog 3 (Value.int .i64) w wm N (wroteV W)
  rmap : MapG Try.prog 3 (Value.int .i64) w rm N rd
  nope : ∀ o, rd o = none → R o = []
  lst : ∀ o u, rd o = some u → w.ownsRow 0 3 1 u (R o).length ((R o).map natV)
  ne : wm ≠ rm
  apart : ∀ o p u x k, rd o = some u → rd p = some x → u.ownBlock = some k → x.ownBlock = some k → o = p
  fb : F b
  fv : ∀ k, v.ownBlock = some k → F k
  fw : F wm
  fr : F rm
  frd : ∀ o u k, rd o = some u → u.ownBlock = some k → F k

def Gng (w : World) (F : Nat → Prop) (b : Nat) (t : Tr) (W : Int → Bool) (R : Int → List Nat) (N : Nat) : Prop := ∃ v wm rm rd, GngP w F b t W R N v wm rm rd

section
variable {w w' : World} {F G : Nat → Prop} {b : Nat} {t : Tr} {W : Int → Bool} {R : Int → List Nat} {N : Nat} {v : Value} {wm rm : Nat} {rd : Int → Option Value}
theorem GngP.keep (h : GngP w F b t W R N v wm rm rd) (hk : ∀ k, F k → w'.heap[k]? = w.heap[k]?) (hG : ∀ k, F k → G k) : GngP w' G b t W R N v wm rm rd :=
  ⟨h.blk.keep (hk _ h.fb), ownsRow_keep h.row (fun k e => hk _ (h.fv k e)), h.wmap.keep (hk _ h.fw), h.rmap.keep (hk _ h.fr), h.nope, fun o u e => ownsRow_keep (h.lst o u e) (fun k e2 => hk _ (h.frd o u k e e2)), h.ne, h.apart, hG _ h.fb, fun k e => hG _ (h.fv k e), hG _ h.fw, hG _ h.fr, fun o u k e e2 => hG _ (h.frd o u k e e2)⟩
theorem Gng.keep (h : Gng w F b t W R N) (hk : ∀ k, F k → w'.heap[k]? = w.heap[k]?) : Gng w' F b t W R N := by
  obtain ⟨v, wm, rm, rd, h⟩ := h
  exact ⟨v, wm, rm, rd, h.keep hk (fun _ h => h)⟩
theorem GngP.v_lt (h : GngP w F b t W R N v wm rm rd) : ∀ k, v.ownBlock = some k → k < w.heap.size := fun k e => (h.row.lt k e).2
theorem GngP.v_ne (h : GngP w F b t W R N v wm rm rd) : ∀ k, v.ownBlock = some k → k ≠ b ∧ k ≠ wm ∧ k ≠ rm := fun k e => by
  obtain ⟨cs, hc⟩ := ownsRow_type h.row e
  refine ⟨fun e2 => ?_, fun e2 => ?_, fun e2 => ?_⟩
  · have := h.blk
    unfold Blk at this
    rw [← e2, hc] at this
    cases this
  · exact h.wmap.not_cells (e2 ▸ hc)
  · exact h.rmap.not_cells (e2 ▸ hc)
theorem GngP.rd_ne (h : GngP w F b t W R N v wm rm rd) {o : Int} {u : Value} (hu : rd o = some u) : ∀ k, u.ownBlock = some k → k ≠ b ∧ k ≠ wm ∧ k ≠ rm ∧ v.ownBlock ≠ some k ∧ k < w.heap.size := fun k e => by
  have hs := h.lst o u hu
  obtain ⟨cs, hc⟩ := ownsRow_type hs e
  refine ⟨fun e2 => ?_, fun e2 => ?_, fun e2 => ?_, fun e2 => ?_, (hs.lt k e).2⟩
  · have := h.blk
    unfold Blk at this
    rw [← e2, hc] at this
    cases this
  · exact h.wmap.not_cells (e2 ▸ hc)
  · exact h.rmap.not_cells (e2 ▸ hc)
  · obtain ⟨ds, hd⟩ := ownsRow_type h.row e2
    rw [hc] at hd
    cases hd
theorem GngP.wm_ne (h : GngP w F b t W R N v wm rm rd) : wm ≠ b := h.wmap.ne_blk h.blk
theorem GngP.rm_ne (h : GngP w F b t W R N v wm rm rd) : rm ≠ b := h.rmap.ne_blk h.blk
end

theorem owns_slice {w : World} {base : Nat} {e : TypeId} {sz : Nat} {v : Value} {n : Nat} {xs : List Value} (h : w.ownsRow base e sz v n xs) : ∃ a c, v = .slice a n c := by
  rcases h.2 with ⟨rfl, rfl⟩ | ⟨g, cap, cur, rfl, _⟩
  · exact ⟨none, 0, rfl⟩
  · exact ⟨_, cap, rfl⟩

/-- The struct and its accesses were changed. -/
theorem GngP.change {w w' : World} {F : Nat → Prop} {b : Nat} {t t' : Tr} {W : Int → Bool} {R : Int → List Nat} {N : Nat} {v v' : Value} {wm rm : Nat} {rd : Int → Option Value}
    (h : GngP w F b t W R N v wm rm rd) (hw : Only (fun k => k = b ∨ v.ownBlock = some k) w w') (hb : Blk 131 w' b ⟨trC t' v' ++ [.map (some wm), .map (some rm)]⟩) (hr : w'.ownsRow 0 48 6 v' t'.ac.length (rows accC t'.ac))
    (hv : v'.ownBlock = v.ownBlock ∨ ∃ k, v'.ownBlock = some k ∧ w.heap.size ≤ k) : GngP w' (Up F w w') b t' W R N v' wm rm rd ∧ Only F w w' := by
  refine ⟨⟨hb, hr, h.wmap.keep (hw.block _ h.wmap.lt ?_), h.rmap.keep (hw.block _ h.rmap.lt ?_), h.nope, fun o u e => ownsRow_keep (h.lst o u e) (fun k e2 => hw.block _ (h.rd_ne e k e2).2.2.2.2 ?_), h.ne, h.apart, .inl h.fb, fun k e => ?_, .inl h.fw, .inl h.fr, fun o u k e e2 => .inl (h.frd o u k e e2)⟩, hw.mono fun k _ hk => ?_⟩
  · rintro (e | e)
    · exact h.wm_ne e
    · exact (h.v_ne _ e).2.1 rfl
  · rintro (e | e)
    · exact h.rm_ne e
    · exact (h.v_ne _ e).2.2 rfl
  · rintro (e3 | e3)
    · exact (h.rd_ne e k e2).1 e3
    · exact (h.rd_ne e k e2).2.2.2.1 e3
  · rcases hv with hv | ⟨k', hv, hk'⟩
    · exact .inl (h.fv k (hv ▸ e))
    · rw [e] at hv
      cases hv
      exact .inr ⟨hk', (hr.lt k e).2⟩
  · rcases hk with rfl | e
    · exact h.fb
    · exact h.fv k e

end Go.Proofs.Ytkidkhjpijjphaa.hs

/- A try on its way: readings are released. -/
namespace Go.Proofs.Ytkidkhjpijjphaa.hs
open Go Go.RowKit Go.Proofs.Ytkidkhjpijjphaa.base Go.Maps
set_option linter.unusedVariables false
set_option maxRecDepth 100000

theorem ownsRow_set {w : World} {base : Nat} {e : TypeId} {sz g n cap : Nat} {xs : List Value} (h : w.ownsRow base e sz (.slice (some ⟨g, 0, none⟩) n cap) n xs) (j : Nat) (hj : j < n * sz) (u : Value) : (w.setCell ⟨g, j, none⟩ u).ownsRow base e sz (.slice (some ⟨g, 0, none⟩) n cap) n (xs.set j u) := by
  obtain ⟨h1, h2⟩ := h
  refine ⟨by simpa using h1, ?_⟩
  rcases h2 with ⟨h2, _⟩ | ⟨g', cap', cur, h2, h3, h4, h5, h6, h7, h8⟩
  · cases h2
  · cases h2
    refine .inr ⟨g, cap, cur.setIfInBounds j u, rfl, h3, Blk.set (t := e) h4 j u, h5, h6, by simpa using h7, ?_⟩
    rw [Array.toList_setIfInBounds, List.take_set, h8]

def setRel (l : List Acc) (n : Nat) : List Acc := l.modify n fun a => { a with rel := true }
def relAt (l : List Acc) (ns : List Nat) : List Acc := ns.foldl setRel l
theorem setRel_len (l : List Acc) (n : Nat) : (setRel l n).length = l.length := by simp [setRel]
theorem relAt_len (ns : List Nat) : ∀ l : List Acc, (relAt l ns).length = l.length := by
  induction ns with
  | nil => intro l; rfl
  | cons n ns ih => intro l; unfold relAt; rw [List.foldl_cons]; exact (ih _).trans (setRel_len l n)
theorem relAt_snoc (l : List Acc) (ns : List Nat) (n : Nat) : relAt l (ns ++ [n]) = setRel (relAt l ns) n := by simp [relAt]
theorem relAt_append (l : List Acc) (ns ms : List Nat) : relAt l (ns ++ ms) = relAt (relAt l ns) ms := by simp [relAt]
theorem rows_setRel : ∀ (l : List Acc) (n : Nat), n < l.length → rows accC (setRel l n) = (rows accC l).set (n * 6 + 5) (.bool true)
  | [], _, h => by simp at h
  | a :: l, 0, _ => by
    simp [setRel, rows, accC]
  | a :: l, n + 1, h => by
    have ih := rows_setRel l n (by simpa using h)
    have e1 : setRel (a :: l) (n + 1) = a :: setRel l n := by simp [setRel]
    rw [e1, show rows accC (a :: setRel l n) = accC a ++ rows accC (setRel l n) from by simp [rows], ih, show rows accC (a :: l) = accC a ++ rows accC l from by simp [rows], List.set_append_right _ _ (by rw [accC_len]; omega)]
    congr 2
    rw [accC_len]
    omega

def updR (R : Int → List Nat) (o : Int) : Int → List Nat := fun p => if p = o then [] else R p

/-- A key is struck from the readings. -/
theorem GngP.strike {w w' : World} {F : Nat → Prop} {b : Nat} {t : Tr} {W : Int → Bool} {R : Int → List Nat} {N : Nat} {v : Value} {wm rm : Nat} {rd : Int → Option Value} (h : GngP w F b t W R N v wm rm rd) (o : Int)
    (hm : MapG Try.prog 3 (Value.int .i64) w' rm N (upd rd o none)) (g : w.grownBy w' (some rm)) : GngP w' F b t W (updR R o) N v wm rm (upd rd o none) ∧ Only F w w' := by
  refine ⟨⟨h.blk.grown g (by simp; exact fun e => h.rm_ne e.symm), ownsRow_keep h.row (fun k e => g.block k (h.v_lt k e) (by simp; exact (h.v_ne k e).2.2)), h.wmap.grown g (by simp; exact h.ne), hm, fun p hp => ?_, fun p u hp => ?_, h.ne, fun p q u x k hp hq => ?_, h.fb, h.fv, h.fw, h.fr, fun p u k hp => ?_⟩, Only.of g (fun k e _ => by cases e; exact h.fr)⟩
  · by_cases e : p = o
    · simp [updR, e]
    · rw [upd_other _ _ e] at hp
      simp only [updR, if_neg e]
      exact h.nope p hp
  · by_cases e : p = o
    · subst e
      rw [upd_same] at hp
      cases hp
    · rw [upd_other _ _ e] at hp
      simp only [updR, if_neg e]
      exact ownsRow_keep (h.lst p u hp) (fun k e2 => g.block k (h.rd_ne hp k e2).2.2.2.2 (by simp; exact (h.rd_ne hp k e2).2.2.1))
  · by_cases e : p = o
    · subst e
      rw [upd_same] at hp
      cases hp
    · by_cases e' : q = o
      · subst e'
        rw [upd_same] at hq
        cases hq
      · rw [upd_other _ _ e] at hp
        rw [upd_other _ _ e'] at hq
        exact h.apart p q u x k hp hq
  · by_cases e : p = o
    · subst e
      rw [upd_same] at hp
      cases hp
    · rw [upd_other _ _ e] at hp
      exact h.frd p u k hp

theorem zeroL (w : World) : (zeroValue 25).run Try.prog w = .ok (.slice none 0 0) w := by kernel_rfl

set_option maxHeartbeats 1000000 in
theorem release_any (w : World) (F : Nat → Prop) (b : Nat) (t : Tr) (W : Int → Bool) (R : Int → List Nat) (N : Nat) (o : Int) (ho : (Lit.int .i64 o).wf = true) (h : Gng w F b t W R N) (hR : ∀ n ∈ R o, n < t.ac.length) (hm : t.ac.length ≤ 1000000) (hl : (R o).length ≤ 1000000) :
    Calls Try.prog 74 #[.pointer (some ⟨b, 0, none⟩), .int .i64 o] w fun r w' => r = .returned (.tuple #[]) ∧ Hid (Gng w' F b { t with ac := relAt t.ac (R o) } W (updR R o) N) ∧ Hid (Only F w w') := by
  obtain ⟨v, wm, rm, rd, h0⟩ := h
  obtain ⟨u, hu, hrow⟩ : ∃ u, (rd o).getD (.slice none 0 0) = u ∧ w.ownsRow 0 3 1 u (R o).length ((R o).map natV) := by
    cases e : rd o with
    | none => exact ⟨_, rfl, by rw [h0.nope o e]; exact World.ownsRow_nil _ _ _ _⟩
    | some u => exact ⟨u, rfl, h0.lst o u e⟩
  obtain ⟨a, c, rfl⟩ := owns_slice hrow
  have H := Lib.hid h0
  have HO := Lib.hid ho
  have HR := Lib.hid hR
  have HU := Lib.hid hu
  clear hu
  have c10 : w.cell? ⟨b, 10, none⟩ = some (.map (some rm)) := h0.blk.cell 10
  by_cases hz : R o = []
  · have hz0 : (R o).length = 0 := by rw [hz]; rfl
    rw [hz0] at HU
    have HN := Lib.hid hz0.symm
    clear h0 hrow ho hR hl hz hz0
    go_enter Try.func74, Try.ntmps74
    go_wp2_with (first | (at_lookup; refine wpList_get_mapG rfl _ _ 129 rfl 3 25 kInt Try.underlying129 _ (zeroL _) (Value.int .i64) rm N rd rfl H.out.rmap o _ rfl (keyInt HO.out) (.slice a 0 c) HU.out ?_) | go_in)
    go_loopw [13] (fun iv wr => ∃ (k : Nat) (ac : List Acc), k ≤ 0 ∧ iv = .int .i64 k ∧ Hid (ac = relAt t.ac ((R o).take k)) ∧ Hid (GngP wr F b { t with ac := ac } W R N (v) wm rm rd) ∧ Hid (Only F w wr)) (fun iv _ => (0 - intOf iv).toNat)
    case atStart => exact ⟨0, t.ac, by omega, rfl, rfl, H, Only.refl _ _⟩
    case round =>
      obtain ⟨k, ac, hk, rfl, HA, HP, HW⟩ := hrel
      have c10 : wr.cell? ⟨b, 10, none⟩ = some (.map (some rm)) := HP.out.blk.cell 10
      obtain rfl : k = 0 := by omega
      have HF := Lib.hid (show ac = relAt t.ac (R o) by rw [HA.out, HN.out, List.take_length])
      go_wp2_with (first | (at_delete; refine wpList_del_mapG rfl _ _ 129 3 rfl 25 kInt (Value.int .i64) vint_inj Try.underlying129 rm N rd rfl HP.out.rmap o _ rfl (keyInt HO.out) ?_; intro u1 m1 g1) | go_in)
      go_end0
      obtain ⟨q1, q2⟩ := HP.out.strike o m1 g1
      rw [HF.out] at q1
      exact ⟨rfl, ⟨_, _, _, _, q1⟩, HW.out.trans q2⟩
  · have hr : ∃ u, rd o = some u := by
      cases e : rd o with
      | none => exact absurd (h0.nope o e) hz
      | some u => exact ⟨u, rfl⟩
    obtain ⟨u', hr⟩ := hr
    rw [hr] at HU
    obtain rfl : u' = .slice a (R o).length c := HU.out
    obtain ⟨n, hn⟩ : ∃ n, n = (R o).length := ⟨_, rfl⟩
    have hn0 : 0 < n := by rw [hn]; exact List.length_pos_iff.2 hz
    obtain ⟨g2, rfl⟩ : ∃ g2, a = some ⟨g2, 0, none⟩ := by
      rcases hrow.2 with ⟨_, e2⟩ | ⟨g2, cap, cur, e1, _⟩
      · omega
      · cases e1
        exact ⟨g2, rfl⟩
    obtain ⟨g3, cv, rfl⟩ : ∃ g3 cv, v = .slice (some ⟨g3, 0, none⟩) t.ac.length cv := by
      rcases h0.row.2 with ⟨_, e2⟩ | ⟨g3, cv, cur, e1, _⟩
      · have : 0 < t.ac.length := by
          obtain ⟨m, hm'⟩ := List.exists_mem_of_ne_nil _ hz
          have := hR m hm'
          omega
        omega
      · exact ⟨g3, cv, e1⟩
    rw [← hr] at HU
    have HRD := Lib.hid hr
    have HN := Lib.hid hn
    rw [← hn] at hl HU HRD
    clear h0 hrow ho hR hz hr hn
    go_enter Try.func74, Try.ntmps74
    go_wp2_with (first | (at_lookup; refine wpList_get_mapG rfl _ _ 129 rfl 3 25 kInt Try.underlying129 _ (zeroL _) (Value.int .i64) rm N rd rfl H.out.rmap o _ rfl (keyInt HO.out) (.slice (some ⟨g2, 0, none⟩) n c) HU.out ?_) | go_in)
    go_loopw [13] (fun iv wr => ∃ (k : Nat) (ac : List Acc), k ≤ n ∧ iv = .int .i64 k ∧ Hid (ac = relAt t.ac ((R o).take k)) ∧ Hid (GngP wr F b { t with ac := ac } W R N (.slice (some ⟨g3, 0, none⟩) t.ac.length cv) wm rm rd) ∧ Hid (Only F w wr)) (fun iv _ => (n - intOf iv).toNat)
    case atStart => exact ⟨0, t.ac, by omega, rfl, rfl, H, Only.refl _ _⟩
    case round =>
      obtain ⟨k, ac, hk, rfl, HA, HP, HW⟩ := hrel
      have c10 : wr.cell? ⟨b, 10, none⟩ = some (.map (some rm)) := HP.out.blk.cell 10
      by_cases hlt : k < n
      · obtain ⟨m, hm1, hm2⟩ : ∃ m, (R o)[k]? = some m ∧ m < t.ac.length := by
          have h1 : k < (R o).length := by rw [← HN.out]; exact hlt
          exact ⟨_, List.getElem?_eq_getElem h1, HR.out _ (List.getElem_mem h1)⟩
        have hlt' : (k : Int) < (n : Int) := by omega
        have hkn : (k : Int) < 1000000 := by omega
        have hm3 : (m : Int) < (t.ac.length : Int) := by omega
        have hm4 : (m : Int) < 1000000 := by omega
        have hm0 : (0 : Int) ≤ (m : Int) := by omega
        have hacl : ac.length = t.ac.length := by rw [HA.out]; exact relAt_len _ _
        have RW2 := Lib.hid (show wr.ownsRow 0 3 1 (.slice (some ⟨g2, 0, none⟩) n c) n ((R o).map natV) by
          have := HP.out.lst o _ HRD.out
          rwa [← HN.out] at this)
        have d0 : wr.cell? ⟨g2, k, none⟩ = some (.int .i64 m) := by
          have := RW2.out.cells (g := g2) rfl k (natV m) (by simp [hm1])
          rw [add_eq] at this
          simpa [natV] using this
        have c8 : wr.cell? ⟨b, 8, none⟩ = some (.slice (some ⟨g3, 0, none⟩) t.ac.length cv) := HP.out.blk.cell 8
        have ROW := Lib.hid HP.out.row
        have hrl : (rows accC ac).length = t.ac.length * 6 := by rw [rows_length accC_len, hacl]
        have d5 : ∃ u, wr.cell? ⟨g3, m * 6 + 5, none⟩ = some u := by
          have := HP.out.row.cells (g := g3) rfl (m * 6 + 5) _ (List.getElem?_eq_getElem (by rw [hrl]; omega))
          rw [add_eq] at this
          exact ⟨_, by simpa using this⟩
        obtain ⟨u5, d5⟩ := d5
        have f0 : wr.frozen? ⟨g3, m * 6 + 5, none⟩ = false := by
          obtain ⟨cs, hc⟩ := ownsRow_type HP.out.row (k := g3) rfl
          exact Blk.free (t := 48) hc _
        go_wp2
        go_roundw
        case rel =>
          have hsz : (wr.setCell ⟨g3, m * 6 + 5, none⟩ (.bool true)).heap.size = wr.heap.size := by simp [World.setCell]
          have gb1 : wr.grownBy (wr.setCell ⟨g3, m * 6 + 5, none⟩ (.bool true)) (some g3) := gb_setB (gb_refl _ _) _
          have hne := (HP.out.v_ne g3 rfl).1
          obtain ⟨q1, q2⟩ := HP.out.change (t' := { t with ac := setRel ac m }) (Only.of gb1 (fun k e _ => .inr e)) (HP.out.blk.grown gb1 (by simp; exact fun e => hne e.symm)) (by
            have h1 := HP.out.row
            have h2 : ac.length = (setRel ac m).length := (setRel_len _ _).symm
            show World.ownsRow _ 0 _ 6 _ (setRel ac m).length (rows accC (setRel ac m))
            rw [rows_setRel _ _ (by rw [hacl]; exact hm2), ← h2]
            have h3 : (Value.slice (some ⟨g3, 0, none⟩) t.ac.length cv) = .slice (some ⟨g3, 0, none⟩) ac.length cv := by rw [hacl]
            rw [h3] at h1 ⊢
            exact ownsRow_set h1 _ (by rw [hacl]; omega) _) (.inl rfl)
          refine ⟨k + 1, setRel ac m, by omega, by go_num, ?_, q1.keep (fun _ _ => rfl) (fun k' h' => h'.elim id (by rw [hsz]; omega)), HW.out.trans q2⟩
          rw [List.take_add_one, hm1, relAt_append, ← HA.out]
          rfl
        case measure => simp [intOf]; omega
      · obtain rfl : k = n := by omega
        have HF := Lib.hid (show ac = relAt t.ac (R o) by rw [HA.out, HN.out, List.take_length])
        go_wp2_with (first | (at_delete; refine wpList_del_mapG rfl _ _ 129 3 rfl 25 kInt (Value.int .i64) vint_inj Try.underlying129 rm N rd rfl HP.out.rmap o _ rfl (keyInt HO.out) ?_; intro u1 m1 g1) | go_in)
        go_end0
        obtain ⟨q1, q2⟩ := HP.out.strike o m1 g1
        rw [HF.out] at q1
        exact ⟨rfl, ⟨_, _, _, _, q1⟩, HW.out.trans q2⟩
end Go.Proofs.Ytkidkhjpijjphaa.hs

/- A try on its way: plain facts of what it wrote and read. -/
namespace Go.Proofs.Ytkidkhjpijjphaa.hs
open Go Go.RowKit Go.Proofs.Ytkidkhjpijjphaa.base Go.Maps
set_option linter.unusedVariables false
set_option maxRecDepth 100000

def readsF (l : List Acc) : Int → List Nat := fun o => readsAt o 0 l
theorem readsAt_append (o : Int) (m : List Acc) : ∀ (l : List Acc) (n : Nat), readsAt o n (l ++ m) = readsAt o n l ++ readsAt o (n + l.length) m
  | [], n => by simp [readsAt]
  | a :: l, n => by
    have ih := readsAt_append o m l (n + 1)
    rw [List.cons_append, readsAt, readsAt]
    have e : n + 1 + l.length = n + (a :: l).length := by simp; omega
    rw [e] at ih
    split
    · rw [ih, List.cons_append]
    · exact ih
theorem readsAt_lt (o : Int) : ∀ (l : List Acc) (n : Nat), ∀ m ∈ readsAt o n l, n ≤ m ∧ m < n + l.length
  | [], n, m, h => by simp [readsAt] at h
  | a :: l, n, m, h => by
    have ih := readsAt_lt o l (n + 1)
    rw [readsAt] at h
    split at h
    · rcases List.mem_cons.1 h with rfl | h
      · simp
      · have := ih m h
        simp
        omega
    · have := ih m h
      simp
      omega
theorem readsAt_len (o : Int) : ∀ (l : List Acc) (n : Nat), (readsAt o n l).length ≤ l.length
  | [], n => by simp [readsAt]
  | a :: l, n => by
    have ih := readsAt_len o l (n + 1)
    rw [readsAt]
    split
    · simp; omega
    · simp; omega

theorem wrote_read (l : List Acc) (pl ob va : Int) (own rel : Bool) (o : Int) : wrote (l ++ [⟨pl, 2, ob, va, own, rel⟩]) o = wrote l o := by simp [wrote]
theorem wrote_write (l : List Acc) (pl ob va : Int) (own rel : Bool) (o : Int) : wrote (l ++ [⟨pl, 3, ob, va, own, rel⟩]) o = (wrote l o || decide (ob = o)) := by simp [wrote]
theorem readsF_read (l : List Acc) (pl ob va : Int) (own : Bool) : readsF (l ++ [⟨pl, 2, ob, va, own, false⟩]) = fun o => if o = ob then readsF l ob ++ [l.length] else readsF l o := by
  funext o
  unfold readsF
  rw [readsAt_append]
  by_cases h : o = ob
  · subst h
    simp [readsAt]
  · have h' : ob ≠ o := fun e => h e.symm
    simp [readsAt, h, h']
theorem readsF_write (l : List Acc) (pl ob va : Int) (own rel : Bool) : readsF (l ++ [⟨pl, 3, ob, va, own, rel⟩]) = readsF l := by
  funext o
  unfold readsF
  rw [readsAt_append]
  simp [readsAt]

theorem setRel_cons (a : Acc) (l : List Acc) (n : Nat) : setRel (a :: l) (n + 1) = a :: setRel l n := by simp [setRel]
theorem relAt_cons (a : Acc) (ns : List Nat) : ∀ l : List Acc, relAt (a :: l) (ns.map (· + 1)) = a :: relAt l ns := by
  induction ns with
  | nil => intro l; rfl
  | cons n ns ih =>
    intro l
    have : relAt (a :: l) ((n :: ns).map (· + 1)) = relAt (setRel (a :: l) (n + 1)) (ns.map (· + 1)) := by simp [relAt]
    rw [this, setRel_cons, ih]
    simp [relAt]
theorem readsAt_shift (o : Int) : ∀ (l : List Acc) (n : Nat), readsAt o (n + 1) l = (readsAt o n l).map (· + 1)
  | [], n => rfl
  | a :: l, n => by
    rw [readsAt, readsAt, readsAt_shift o l (n + 1)]
    split <;> simp
/-- To release the readings that aren't yet: all of them. -/
theorem relAt_reads (o : Int) : ∀ l : List Acc, relAt l (readsAt o 0 l) = relAll l o
  | [] => rfl
  | a :: l => by
    have ih := relAt_reads o l
    rw [readsAt]
    split
    · next h =>
      have h1 : relAt (a :: l) (0 :: readsAt o (0 + 1) l) = relAt (setRel (a :: l) 0) (readsAt o (0 + 1) l) := by simp [relAt]
      rw [h1, readsAt_shift]
      have h2 : setRel (a :: l) 0 = { a with rel := true } :: l := by simp [setRel]
      rw [h2, relAt_cons, ih]
      simp [relAll, Acc.free, h]
    · next h =>
      rw [readsAt_shift, relAt_cons, ih]
      have : Acc.free o a = a := by
        unfold Acc.free
        split
        · next h2 =>
          have h3 : a.rel = true := by
            cases hr : a.rel with
            | true => rfl
            | false => exact absurd ⟨h2.1, h2.2, hr⟩ h
          cases a
          simp_all
        · rfl
      simp [relAll, this]
theorem readsF_free (l : List Acc) (ob : Int) : readsF (relAll l ob) = updR (readsF l) ob := by
  funext o
  unfold readsF updR
  have key : ∀ (l : List Acc) (n : Nat), readsAt o n (relAll l ob) = if o = ob then [] else readsAt o n l := by
    intro l
    induction l with
    | nil => intro n; simp [relAll, readsAt]
    | cons a l ih =>
      intro n
      have e : relAll (a :: l) ob = Acc.free ob a :: relAll l ob := rfl
      rw [e, readsAt, readsAt, ih]
      by_cases ho : o = ob
      · subst ho
        simp only [if_true]
        rw [if_neg]
        unfold Acc.free
        split
        · simp
        · next h => exact fun h2 => h ⟨h2.1, h2.2.1⟩
      · simp only [if_neg ho]
        have hf : (Acc.free ob a).k = a.k ∧ (Acc.free ob a).ob = a.ob := by unfold Acc.free; split <;> exact ⟨rfl, rfl⟩
        rw [hf.1, hf.2]
        by_cases hk : a.k = 2 ∧ a.ob = o
        · have : Acc.free ob a = a := by
            unfold Acc.free
            rw [if_neg]
            rintro ⟨_, h2⟩
            exact ho (hk.2.symm.trans h2)
          rw [this]
        · rw [if_neg (fun h => hk ⟨h.1, h.2.1⟩), if_neg (fun h => hk ⟨h.1, h.2.1⟩)]
  exact key l 0
theorem wrote_free (l : List Acc) (ob : Int) : wrote (relAll l ob) = wrote l := by
  funext o
  unfold wrote relAll
  rw [List.any_map]
  congr 1
  funext a
  simp only [Function.comp, Acc.free]
  split <;> rfl

section
variable {w w' : World} {F : Nat → Prop} {b : Nat} {t : Tr} {W : Int → Bool} {R : Int → List Nat} {N : Nat} {v : Value} {wm rm : Nat} {rd : Int → Option Value}
/-- A reading is noted. -/
theorem GngP.push (h : GngP w F b t W R N v wm rm rd) (o : Int) (u' : Value) (ns : List Nat)
    (hw : Only (fun k => k = rm ∨ ((rd o).getD (.slice none 0 0)).ownBlock = some k) w w') (hm : MapG Try.prog 3 (Value.int .i64) w' rm (N + 1) (upd rd o (some u'))) (hr : w'.ownsRow 0 3 1 u' ns.length (ns.map natV))
    (hv : u'.ownBlock = ((rd o).getD (.slice none 0 0)).ownBlock ∨ ∃ k, u'.ownBlock = some k ∧ w.heap.size ≤ k) :
    GngP w' (Up F w w') b t W (fun p => if p = o then ns else R p) (N + 1) v wm rm (upd rd o (some u')) ∧ Only F w w' := by
  have hold : ∀ k, ((rd o).getD (.slice none 0 0)).ownBlock = some k → ∃ u, rd o = some u ∧ u.ownBlock = some k := fun k e => by
    cases hu : rd o with
    | none => rw [hu] at e; cases e
    | some u => rw [hu] at e; exact ⟨u, rfl, e⟩
  have hF : ∀ k, u'.ownBlock = some k → Up F w w' k := fun k e => by
    rcases hv with hv | ⟨k', hv, hk'⟩
    · obtain ⟨u, h1, h2⟩ := hold k (hv ▸ e)
      exact .inl (h.frd o u k h1 h2)
    · rw [e] at hv
      cases hv
      exact .inr ⟨hk', (hr.lt k e).2⟩
  have noap : ∀ p x k, p ≠ o → rd p = some x → x.ownBlock = some k → u'.ownBlock ≠ some k := fun p x k hp hx hk e => by
    rcases hv with hv | ⟨k', hv, hk'⟩
    · obtain ⟨u, h1, h2⟩ := hold k (hv ▸ e)
      exact hp (h.apart p o x u k hx h1 hk h2)
    · rw [e] at hv
      cases hv
      have := (h.rd_ne hx k hk).2.2.2.2
      omega
  refine ⟨⟨h.blk.keep (hw.block _ h.blk.lt ?_), ownsRow_keep h.row (fun k e => hw.block k (h.v_lt k e) ?_), (h.wmap.keep (hw.block _ h.wmap.lt ?_)).more (Nat.le_succ _), hm, fun p hp => ?_, fun p u hp => ?_, h.ne, fun p q u x k hp hq hk hk' => ?_, .inl h.fb, fun k e => .inl (h.fv k e), .inl h.fw, .inl h.fr, fun p u k hp hk => ?_⟩, hw.mono fun k _ hk => ?_⟩
  · rintro (e | e)
    · exact h.rm_ne e.symm
    · obtain ⟨u, h1, h2⟩ := hold _ e
      exact (h.rd_ne h1 _ h2).1 rfl
  · rintro (e2 | e2)
    · exact (h.v_ne k e).2.2 e2
    · obtain ⟨u, h1, h2⟩ := hold _ e2
      exact (h.rd_ne h1 _ h2).2.2.2.1 e
  · rintro (e | e)
    · exact h.ne e
    · obtain ⟨u, h1, h2⟩ := hold _ e
      exact (h.rd_ne h1 _ h2).2.1 rfl
  · by_cases e : p = o
    · subst e
      rw [upd_same] at hp
      cases hp
    · rw [upd_other _ _ e] at hp
      simp only [if_neg e]
      exact h.nope p hp
  · by_cases e : p = o
    · subst e
      rw [upd_same] at hp
      cases hp
      simp only [if_true]
      exact hr
    · rw [upd_other _ _ e] at hp
      simp only [if_neg e]
      refine ownsRow_keep (h.lst p u hp) (fun k e2 => hw.block k (h.rd_ne hp k e2).2.2.2.2 ?_)
      rintro (e3 | e3)
      · exact (h.rd_ne hp k e2).2.2.1 e3
      · obtain ⟨u2, h1, h2⟩ := hold _ e3
        exact e (h.apart p o u u2 k hp h1 e2 h2)
  · by_cases e : p = o
    · subst e
      rw [upd_same] at hp
      cases hp
      by_cases e' : q = p
      · exact e'.symm
      · rw [upd_other _ _ e'] at hq
        exact absurd hk (noap q x k e' hq hk')
    · rw [upd_other _ _ e] at hp
      by_cases e' : q = o
      · subst e'
        rw [upd_same] at hq
        cases hq
        exact absurd hk' (noap p u k e hp hk)
      · rw [upd_other _ _ e'] at hq
        exact h.apart p q u x k hp hq hk hk'
  · by_cases e : p = o
    · subst e
      rw [upd_same] at hp
      cases hp
      exact hF k hk
    · rw [upd_other _ _ e] at hp
      exact .inl (h.frd p u k hp hk)
  · rcases hk with rfl | e
    · exact h.fr
    · obtain ⟨u, h1, h2⟩ := hold _ e
      exact h.frd o u k h1 h2

/-- It wrote an object. -/
theorem GngP.wrotes (h : GngP w F b t W R N v wm rm rd) (o : Int) (hm : MapG Try.prog 3 (Value.int .i64) w' wm (N + 1) (upd (wroteV W) o (some (.bool true)))) (g : w.grownBy w' (some wm)) :
    GngP w' F b t (fun p => W p || decide (o = p)) R (N + 1) v wm rm rd ∧ Only F w w' := by
  refine ⟨⟨h.blk.grown g (by simp; exact fun e => h.wm_ne e.symm), ownsRow_keep h.row (fun k e => g.block k (h.v_lt k e) (by simp; exact (h.v_ne k e).2.1)), hm.congr (fun x _ _ => ?_), (h.rmap.grown g (by simp; exact fun e => h.ne e.symm)).more (Nat.le_succ _), h.nope, fun p u hp => ownsRow_keep (h.lst p u hp) (fun k e2 => g.block k (h.rd_ne hp k e2).2.2.2.2 (by simp; exact (h.rd_ne hp k e2).2.1)), h.ne, h.apart, h.fb, h.fv, h.fw, h.fr, h.frd⟩, Only.of g (fun k e _ => by cases e; exact h.fw)⟩
  by_cases e : x = o
  · subst e
    rw [upd_same]
    simp [wroteV]
  · rw [upd_other _ _ e]
    have : (o = x) = False := by simp; exact fun h => e h.symm
    simp [wroteV, this]
end
end Go.Proofs.Ytkidkhjpijjphaa.hs

/- A try on its way: what an event does to it: releases, ends, others. -/
namespace Go.Proofs.Ytkidkhjpijjphaa.hs
open Go Go.RowKit Go.Proofs.Ytkidkhjpijjphaa.base Go.Maps
set_option linter.unusedVariables false
set_option maxRecDepth 100000

theorem Gng.more {w : World} {F G : Nat → Prop} {b : Nat} {t : Tr} {W : Int → Bool} {R : Int → List Nat} {N : Nat} (h : Gng w F b t W R N) (hG : ∀ k, F k → G k) : Gng w G b t W R (N + 1) := by
  obtain ⟨v, wm, rm, rd, h⟩ := h
  exact ⟨v, wm, rm, rd, ⟨h.blk, h.row, h.wmap.more (Nat.le_succ _), h.rmap.more (Nat.le_succ _), h.nope, h.lst, h.ne, h.apart, hG _ h.fb, fun k e => hG _ (h.fv k e), hG _ h.fw, hG _ h.fr, fun o u k e e2 => hG _ (h.frd o u k e e2)⟩⟩
theorem Gng.alloc {w : World} {F : Nat → Prop} {b : Nat} {t : Tr} {W : Int → Bool} {R : Int → List Nat} {N : Nat} (h : Gng w F b t W R N) (hF : ∀ k, F k → k < w.heap.size) (o : Obj) : Gng (w.alloc o) F b t W R N := h.keep (fun k hk => Below.heap_alloc w o k (hF k hk))
/-- A cell of the try. -/
theorem Gng.at {w : World} {F : Nat → Prop} {b : Nat} {t : Tr} {W : Int → Bool} {R : Int → List Nat} {N : Nat} (h : Gng w F b t W R N) (j : Nat) (hj : j < 8) {u : Value} (hu : (trC t undef)[j]? = some u) : w.cell? ⟨b, j, none⟩ = some u := by
  obtain ⟨v, wm, rm, rd, h⟩ := h
  have := h.blk.cell j
  rw [this]
  match j, hj with
  | 0, _ => exact hu
  | 1, _ => exact hu
  | 2, _ => exact hu
  | 3, _ => exact hu
  | 4, _ => exact hu
  | 5, _ => exact hu
  | 6, _ => exact hu
  | 7, _ => exact hu

/-- The struct alone was changed. -/
theorem GngP.ends {w0 w w' : World} {F : Nat → Prop} {b : Nat} {t t' : Tr} {W : Int → Bool} {R : Int → List Nat} {N : Nat} {v : Value} {wm rm : Nat} {rd : Int → Option Value} (h : GngP w F b t W R N v wm rm rd) (ht : t'.ac = t.ac) (g0 : w0.grownBy w none)
    (g : w.grownBy w' (some b)) (hb : Blk 131 w' b ⟨trC t' v ++ [.map (some wm), .map (some rm)]⟩) : Gng w' (Up F w0 w') b t' W R (N + 1) ∧ Only F w0 w' := by
  obtain ⟨h1, h2⟩ := h.change (t' := t') (v' := v) (Only.of g (fun k e _ => .inl (by cases e; rfl))) hb (by rw [ht]; exact ownsRow_keep h.row (fun k e => g.block k (h.v_lt k e) (by simp; exact (h.v_ne k e).1))) (.inl rfl)
  refine ⟨Gng.more ⟨_, _, _, _, h1⟩ fun k hk => ?_, (Only.none g0).trans h2⟩
  rcases hk with hk | hk
  · exact .inl hk
  · have := g0.size
    exact .inr ⟨by omega, hk.2⟩

set_option maxHeartbeats 1000000 in
theorem does_release (w : World) (F : Nat → Prop) (b : Nat) (t : Tr) (N : Nat) (pl : Nat)  (th tx at_ ob va re : Int) (ho : (Lit.int .i64 ob).wf = true) (hF : ∀ k, F k → k < w.heap.size) (h : Gng w F b t (wrote t.ac) (readsF t.ac) N) (hen : t.en = -1) (hm : t.ac.length < 100000) (hN : N < 100000) :
    Calls Try.prog 63 #[.pointer (some ⟨b, 0, none⟩), .int .i64 pl, .agg #[.int .i64 4, .int .i64 th, .int .i64 tx, .int .i64 at_, .int .i64 ob, .int .i64 va, .int .i64 re]] w fun r w' => r = .returned (.bool false) ∧ Hid (Gng w' (Up F w w') b { t with ac := relAll t.ac ob } (wrote (relAll t.ac ob)) (readsF (relAll t.ac ob)) (N + 1)) ∧ Hid (Only F w w') := by
  have GA := Lib.hid (World.grownBy_alloc w (.cells #[.int .i64 4, .int .i64 th, .int .i64 tx, .int .i64 at_, .int .i64 ob, .int .i64 va, .int .i64 re] 51) none)
  have H := Lib.hid (h.alloc hF (.cells #[.int .i64 4, .int .i64 th, .int .i64 tx, .int .i64 at_, .int .i64 ob, .int .i64 va, .int .i64 re] 51))
  have HO := Lib.hid ho
  have EN := Lib.hid hen
  have HM := Lib.hid hm
  clear h ho hen hF hm
  go_enter Try.func63, Try.ntmps63
  go_wp2_with (first | (go_at_call 74; refine (release_any _ F b t _ _ N ob HO.out H.out (fun n hn => by have := readsAt_lt ob t.ac 0 n hn; omega) (by have := HM.out; omega) (by have := HM.out; have := readsAt_len ob t.ac 0; unfold readsF; omega)).mono ?_; rintro r u1 ⟨rfl, g1, o1⟩; have c5 : u1.cell? ⟨b, 5, none⟩ = some (.int .i64 (-1)) := g1.out.at 5 (by omega) (by simp [trC, EN.out])) | go_in)
  go_ret
  refine ⟨rfl, ?_, (Only.none GA.out).trans o1.out⟩
  have := g1.out
  rw [show readsF t.ac ob = readsAt ob 0 t.ac from rfl, relAt_reads, ← readsF_free, ← wrote_free t.ac ob] at this
  exact this.more (fun k hk => .inl hk)

set_option maxHeartbeats 1000000 in
theorem does_commit (w : World) (F : Nat → Prop) (b : Nat) (t : Tr) (N : Nat) (pl : Nat)  (th tx at_ ob va re : Int) (ho : (Lit.int .i64 ob).wf = true) (hF : ∀ k, F k → k < w.heap.size) (h : Gng w F b t (wrote t.ac) (readsF t.ac) N) (hen : t.en = -1) (hm : t.ac.length < 100000) (hN : N < 100000) :
    Calls Try.prog 63 #[.pointer (some ⟨b, 0, none⟩), .int .i64 pl, .agg #[.int .i64 5, .int .i64 th, .int .i64 tx, .int .i64 at_, .int .i64 ob, .int .i64 va, .int .i64 re]] w fun r w' => r = .returned (.bool true) ∧ Hid (Gng w' (Up F w w') b { t with en := pl, co := true } (wrote t.ac) (readsF t.ac) (N + 1)) ∧ Hid (Only F w w') := by
  obtain ⟨v, wm, rm, rd, h0⟩ := h.alloc hF (.cells #[.int .i64 5, .int .i64 th, .int .i64 tx, .int .i64 at_, .int .i64 ob, .int .i64 va, .int .i64 re] 51)
  have GA := Lib.hid (World.grownBy_alloc w (.cells #[.int .i64 5, .int .i64 th, .int .i64 tx, .int .i64 at_, .int .i64 ob, .int .i64 va, .int .i64 re] 51) none)
  have H := Lib.hid h0
  have hF2 := Lib.hid hF
  have c5 := h0.blk.cell 5
  have c7 := h0.blk.cell 7
  have f5 := h0.blk.free 5
  have f7 := h0.blk.free 7
  have bl := h0.blk.lt
  clear h ho hen hF hm h0
  go_enter Try.func63, Try.ntmps63
  go_wp2
  go_ret
  obtain ⟨q1, q2⟩ := H.out.ends (t' := { t with en := pl, co := true }) rfl GA.out (gb_setB (gb_setB (gb_refl _ _) (.int .i64 pl)) (.bool true)) ((H.out.blk.set 5 (.int .i64 pl)).set 7 (.bool true))
  refine ⟨?_, q1, q2⟩
  have : ((pl : Int) != -1) = true := by simp
  rw [this]
  rfl

set_option maxHeartbeats 1000000 in
theorem does_abort (w : World) (F : Nat → Prop) (b : Nat) (t : Tr) (N : Nat) (pl : Nat)  (th tx at_ ob va re : Int) (ho : (Lit.int .i64 ob).wf = true) (hF : ∀ k, F k → k < w.heap.size) (h : Gng w F b t (wrote t.ac) (readsF t.ac) N) (hen : t.en = -1) (hm : t.ac.length < 100000) (hN : N < 100000) :
    Calls Try.prog 63 #[.pointer (some ⟨b, 0, none⟩), .int .i64 pl, .agg #[.int .i64 6, .int .i64 th, .int .i64 tx, .int .i64 at_, .int .i64 ob, .int .i64 va, .int .i64 re]] w fun r w' => r = .returned (.bool true) ∧ Hid (Gng w' (Up F w w') b { t with en := pl, re := re } (wrote t.ac) (readsF t.ac) (N + 1)) ∧ Hid (Only F w w') := by
  obtain ⟨v, wm, rm, rd, h0⟩ := h.alloc hF (.cells #[.int .i64 6, .int .i64 th, .int .i64 tx, .int .i64 at_, .int .i64 ob, .int .i64 va, .int .i64 re] 51)
  have GA := Lib.hid (World.grownBy_alloc w (.cells #[.int .i64 6, .int .i64 th, .int .i64 tx, .int .i64 at_, .int .i64 ob, .int .i64 va, .int .i64 re] 51) none)
  have EB := Lib.hid (Blk.made w 51 #[.int .i64 6, .int .i64 th, .int .i64 tx, .int .i64 at_, .int .i64 ob, .int .i64 va, .int .i64 re])
  have H := Lib.hid h0
  clear h ho hen hF hm h0
  go_enter Try.func63, Try.ntmps63
  go_upto_region 13 with fail
  generalize w.alloc _ = v1 at *
  generalize w.heap.size = p at *
  have c5 : v1.cell? ⟨b, 5, none⟩ = some (.int .i64 t.en) := H.out.blk.cell 5
  have c6 : v1.cell? ⟨b, 6, none⟩ = some (.int .i64 t.re) := H.out.blk.cell 6
  have e6 : v1.cell? ⟨p, 6, none⟩ = some (.int .i64 re) := EB.out.cell 6
  have f5 := H.out.blk.free 5
  have f6 := H.out.blk.free 6
  have bl := H.out.blk.lt
  have hbp : p ≠ b := by
    intro e
    have := H.out.blk
    have h2 := EB.out
    rw [e] at h2
    unfold Blk at this h2
    rw [this] at h2
    injection h2 with h2
    injection h2 with _ h3
    exact absurd h3 (by decide)
  go_wp2_with fail
  go_region
  all_goals
    go_wp2
    go_ret
    obtain ⟨q1, q2⟩ := H.out.ends (t' := { t with en := pl, re := re }) rfl GA.out (gb_drew (gb_setB (gb_setB (gb_refl _ _) (.int .i64 pl)) (.int .i64 re))) (((H.out.blk.set 5 (.int .i64 pl)).set 6 (.int .i64 re)).drew)
    refine ⟨?_, q1, q2⟩
    have : ((pl : Int) != -1) = true := by simp
    rw [this]
    rfl
end Go.Proofs.Ytkidkhjpijjphaa.hs

/- A try on its way: an access is put behind all others. -/
namespace Go.Proofs.Ytkidkhjpijjphaa.hs
open Go Go.RowKit Go.Proofs.Ytkidkhjpijjphaa.base Go.Maps
set_option linter.unusedVariables false
set_option maxRecDepth 100000

theorem infoAcc : (Try.prog.info? 48).map (fun i => (i.zero, i.size, i.bytes)) = some (some (.agg #[.int .i64 0, .int .i64 0, .int .i64 0, .int .i64 0, .bool false, .bool false]), 6, 40) := by kernel_rfl

set_option maxHeartbeats 60000000 in
theorem access_any (w : World) (F : Nat → Prop) (b : Nat) (t : Tr) (W : Int → Bool) (R : Int → List Nat) (N : Nat) (pl : Int) (e : Ev) (own : Bool) (h : Gng w F b t W R N) (hm : t.ac.length < 1000000) :
    Calls Try.prog 73 #[.pointer (some ⟨b, 0, none⟩), .int .i64 pl, .agg #[.int .i64 e.k, .int .i64 e.th, .int .i64 e.tx, .int .i64 e.at_, .int .i64 e.ob, .int .i64 e.va, .int .i64 e.re], .bool own] w fun r w' => r = .returned (.tuple #[]) ∧ Hid (Gng w' (Up F w w') b { t with ac := t.ac ++ [⟨pl, e.k, e.ob, e.va, own, false⟩] } W R N) ∧ Hid (Only F w w') := by
  obtain ⟨v0, wm, rm, rd, h0⟩ := h
  obtain ⟨a, c, rfl⟩ := owns_slice h0.row
  obtain ⟨i0, hi0, hz00, hz10, hz20⟩ := info_parts infoAcc
  have hi := Lib.hid hi0
  have hz0 := Lib.hid hz00
  have hz1 := Lib.hid hz10
  have hz2 := Lib.hid hz20
  have H := Lib.hid h0
  have EB := Lib.hid (Blk.made w 51 #[.int .i64 e.k, .int .i64 e.th, .int .i64 e.tx, .int .i64 e.at_, .int .i64 e.ob, .int .i64 e.va, .int .i64 e.re])
  have GA := Lib.hid (World.grownBy_alloc w (.cells #[.int .i64 e.k, .int .i64 e.th, .int .i64 e.tx, .int .i64 e.at_, .int .i64 e.ob, .int .i64 e.va, .int .i64 e.re] 51) none)
  clear h0 hi0 hz00 hz10 hz20
  go_enter Try.func73, Try.ntmps73
  go_upto_region 1 with fail
  generalize w.alloc _ = v at *
  generalize hp : w.heap.size = p at *
  have P := Lib.hid hp
  clear hp
  have B2 := Lib.hid (H.out.blk.grown GA.out (by simp))
  have O2 := Lib.hid (ownsRow_keep H.out.row (fun k e => GA.out.block k (H.out.row.lt k e).2 (by simp)))
  have c8 : v.cell? ⟨b, 8, none⟩ = some (.slice a t.ac.length c) := B2.out.cell 8
  have e0 : v.cell? ⟨p, 0, none⟩ = some (.int .i64 e.k) := EB.out.cell 0
  have e4 : v.cell? ⟨p, 4, none⟩ = some (.int .i64 e.ob) := EB.out.cell 4
  have e5 : v.cell? ⟨p, 5, none⟩ = some (.int .i64 e.va) := EB.out.cell 5
  have bl := B2.out.lt
  have pl0 := EB.out.lt
  go_wp2_with fail
  have hbp : b ≠ p := by have := P.out; have := H.out.blk.lt; omega
  go_region_law ((refine step_append_at rfl (.tmp 13) (.tmp 23) 39 rfl 0 48 i0 (.agg #[.int .i64 0, .int .i64 0, .int .i64 0, .int .i64 0, .bool false, .bool false]) 6 40 Try.underlying39 hi.out hz0.out hz1.out hz2.out rfl (by decide) (.slice a t.ac.length c) t.ac.length (rows accC t.ac) (by simp [Act.eval]) ((O2.out.alloc _).drew) ⟨v.heap.size, 0, none⟩ 1 1 (accC ⟨pl, e.k, e.ob, e.va, own, false⟩) (by simp [Act.eval]) rfl (new_cells v.drew _ _) (accC_one [⟨pl, e.k, e.ob, e.va, own, false⟩]) (by unfold maxLen; omega) (by omega) (by simp) (by decide) ?_; intro g' c' w1 ho1 hg1 hv1; have BX := Lib.hid (((B2.out.alloc (.cells ⟨accC ⟨pl, e.k, e.ob, e.va, own, false⟩⟩ 48)).drew).grown hg1 (by intro h9; have := (H.out.v_ne _ h9.symm).1; exact this rfl)); have c2 : w1.cell? ⟨b, 8, none⟩ = some (.slice a t.ac.length c) := BX.out.cell 8; have f2 := BX.out.free 8; have EX := ((EB.out.alloc (.cells ⟨accC ⟨pl, e.k, e.ob, e.va, own, false⟩⟩ 48)).drew).grown hg1 (by intro h9; have := H.out.v_lt _ h9.symm; have := P.out; omega); have x0 : w1.cell? ⟨p, 0, none⟩ = some (.int .i64 e.k) := EX.cell 0; have x4 : w1.cell? ⟨p, 4, none⟩ = some (.int .i64 e.ob) := EX.cell 4; have x5 : w1.cell? ⟨p, 5, none⟩ = some (.int .i64 e.va) := EX.cell 5; clear EX; have HO := Lib.hid ho1; have HG := Lib.hid hg1; have HV := Lib.hid hv1; clear ho1 hg1 hv1))
  all_goals
    go_wp2
    (first | go_end0 | refine bodyPost_ret (results_none rfl _ _ _) rfl ?_)
    have hbl : t.ac.length + 1 = (t.ac ++ [(⟨pl, e.k, e.ob, e.va, own, false⟩ : Acc)]).length := by simp
    have hON : Only (fun k => k = b ∨ (Value.slice a t.ac.length c).ownBlock = some k) w w1 := (Only.none GA.out).trans (Only.of (gb_trans (gb_drew (gb_alloc (gb_refl v _) _)) HG.out) (fun k e1 _ => .inr e1))
    obtain ⟨g1, g2⟩ := H.out.change (t' := { t with ac := t.ac ++ [⟨pl, e.k, e.ob, e.va, own, false⟩] }) (v' := .slice (some ⟨g', 0, none⟩) (t.ac.length + 1) c') (hON.trans (Only.of (gb_setB (gb_refl w1 _) (.slice (some ⟨g', 0, none⟩) (t.ac.length + 1) c')) (fun k e1 _ => .inl (by cases e1; rfl)))) (BX.out.set 8 _) (by
      rw [← hbl, show rows accC (t.ac ++ [⟨pl, e.k, e.ob, e.va, own, false⟩]) = rows accC t.ac ++ accC ⟨pl, e.k, e.ob, e.va, own, false⟩ from rows_snoc _ _]
      refine ownsRow_keep HO.out (fun k e1 => Below.heap_setCell _ _ _ _ ?_)
      cases e1
      rcases HV.out with h | h
      · exact (H.out.v_ne _ h.symm).1
      · have h1 := H.out.blk.lt
        have h2 := GA.out.size
        simp at h
        show g' ≠ b
        omega) (by
      rcases HV.out with h | h
      · exact .inl h
      · have h2 := GA.out.size
        simp at h
        exact .inr ⟨g', rfl, by omega⟩)
    exact ⟨rfl, ⟨_, _, _, _, g1⟩, g2⟩
end Go.Proofs.Ytkidkhjpijjphaa.hs

/- A try on its way: what an event does to it: a write, a reading. -/
namespace Go.Proofs.Ytkidkhjpijjphaa.hs
open Go Go.RowKit Go.Proofs.Ytkidkhjpijjphaa.base Go.Maps
set_option linter.unusedVariables false
set_option maxRecDepth 100000


theorem Gng.wide {w : World} {F G : Nat → Prop} {b : Nat} {t : Tr} {W W' : Int → Bool} {R R' : Int → List Nat} {N : Nat} (h : Gng w F b t W R N) (hG : ∀ k, F k → G k) (hW : W' = W) (hR : R' = R) : Gng w G b t W' R' N := by
  obtain ⟨v, wm, rm, rd, h⟩ := h
  rw [hW, hR]
  exact ⟨v, wm, rm, rd, h.keep (fun _ _ => rfl) hG⟩
theorem only_later {F S : Nat → Prop} {w u v : World} (h : Only F w u) (k : Only S u v) (hs : ∀ i, i < w.heap.size → S i → F i) : Only F w v :=
  ⟨k.os.trans h.os, k.tape.trans h.tape, k.output.trans h.output, Nat.le_trans h.size k.size, fun i hi hn => (k.block i (Nat.lt_of_lt_of_le hi h.size) (fun e => hn (hs i hi e))).trans (h.block i hi hn)⟩
theorem zeroB (w : World) : (zeroValue 4).run Try.prog w = .ok (.bool false) w := by kernel_rfl

set_option maxHeartbeats 4000000 in
theorem does_write (w : World) (F : Nat → Prop) (b : Nat) (t : Tr) (N : Nat) (pl : Nat)  (th tx at_ ob va re : Int) (ho : (Lit.int .i64 ob).wf = true) (hF : ∀ k, F k → k < w.heap.size) (h : Gng w F b t (wrote t.ac) (readsF t.ac) N) (hen : t.en = -1) (hm : t.ac.length < 100000) (hN : N < 100000) :
    Calls Try.prog 63 #[.pointer (some ⟨b, 0, none⟩), .int .i64 pl, .agg #[.int .i64 3, .int .i64 th, .int .i64 tx, .int .i64 at_, .int .i64 ob, .int .i64 va, .int .i64 re]] w fun r w' => r = .returned (.bool false) ∧ Hid (Gng w' (Up F w w') b { t with ac := t.ac ++ [⟨pl, 3, ob, va, false, false⟩] } (wrote (t.ac ++ [⟨pl, 3, ob, va, false, false⟩])) (readsF (t.ac ++ [⟨pl, 3, ob, va, false, false⟩])) (N + 1)) ∧ Hid (Only F w w') := by
  obtain ⟨v, wm, rm, rd, h0⟩ := h.alloc hF (.cells #[.int .i64 3, .int .i64 th, .int .i64 tx, .int .i64 at_, .int .i64 ob, .int .i64 va, .int .i64 re] 51)
  have GA := Lib.hid (World.grownBy_alloc w (.cells #[.int .i64 3, .int .i64 th, .int .i64 tx, .int .i64 at_, .int .i64 ob, .int .i64 va, .int .i64 re] 51) none)
  have EB := Lib.hid (Blk.made w 51 #[.int .i64 3, .int .i64 th, .int .i64 tx, .int .i64 at_, .int .i64 ob, .int .i64 va, .int .i64 re])
  have H := Lib.hid h0
  have HO := Lib.hid ho
  have EN := Lib.hid hen
  clear h ho hen hF h0
  go_enter Try.func63, Try.ntmps63
  go_upto_region 6 with fail
  generalize w.alloc _ = v1 at *
  generalize hp : w.heap.size = p at *
  have c9 : v1.cell? ⟨b, 9, none⟩ = some (.map (some wm)) := H.out.blk.cell 9
  have e4 : v1.cell? ⟨p, 4, none⟩ = some (.int .i64 ob) := EB.out.cell 4
  have bl := H.out.blk.lt
  have pl0 := EB.out.lt
  obtain ⟨u1, hU, hm1, hg1⟩ := (show MapG Try.prog 3 (Value.int .i64) v1.drew wm N (wroteV (wrote t.ac)) from H.out.wmap).set kInt vint_inj Try.underlying128 (by unfold maxLen; omega) (keyInt HO.out) (.bool true)
  obtain ⟨q1, q2⟩ := H.out.wrotes ob hm1 (gb_trans (gb_drew (gb_refl v1 _)) hg1)
  have E2 := EB.out.drew.grown hg1 (by have := H.out.wmap.ne_blk (show Blk 51 v1 p _ from EB.out); simp; exact fun e => this e.symm)
  have r0 : u1.cell? ⟨p, 0, none⟩ = some (.int .i64 3) := E2.cell 0
  have r1 : u1.cell? ⟨p, 1, none⟩ = some (.int .i64 th) := E2.cell 1
  have r2 : u1.cell? ⟨p, 2, none⟩ = some (.int .i64 tx) := E2.cell 2
  have r3 : u1.cell? ⟨p, 3, none⟩ = some (.int .i64 at_) := E2.cell 3
  have r4 : u1.cell? ⟨p, 4, none⟩ = some (.int .i64 ob) := E2.cell 4
  have r5 : u1.cell? ⟨p, 5, none⟩ = some (.int .i64 va) := E2.cell 5
  have r6 : u1.cell? ⟨p, 6, none⟩ = some (.int .i64 re) := E2.cell 6
  have Q1 := Lib.hid q1
  have Q2 := Lib.hid q2
  clear q1 q2 hm1 hg1 E2
  go_wp2_with fail
  go_region
  all_goals
    go_wp2_with (first | (go_at_call 73; refine (access_any u1 F b t _ _ (N + 1) pl ⟨3, th, tx, at_, ob, va, re⟩ false ⟨_, _, _, _, Q1.out⟩ (by omega)).mono ?_; rintro r u2 ⟨rfl, g2, o2⟩; have c5 : u2.cell? ⟨b, 5, none⟩ = some (.int .i64 (-1)) := g2.out.at 5 (by omega) (by simp [trC, EN.out])) | go_in)
    go_ret
    refine ⟨rfl, g2.out.wide (fun k hk => ?_) (funext fun o => wrote_write _ _ _ _ _ _ _) (readsF_write _ _ _ _ _ _), ((Only.none GA.out).trans Q2.out).trans o2.out⟩
    rcases hk with hk | hk
    · exact .inl hk
    · have h1 := GA.out.size
      have h2 := Q2.out.size
      exact .inr ⟨by omega, hk.2⟩

theorem infoInt : (Try.prog.info? 3).map (fun i => (i.zero, i.size, i.bytes)) = some (some (.int .i64 0), 1, 8) := by kernel_rfl

set_option maxHeartbeats 4000000 in
theorem does_read (w : World) (F : Nat → Prop) (b : Nat) (t : Tr) (N : Nat) (pl : Nat)  (th tx at_ ob va re : Int) (ho : (Lit.int .i64 ob).wf = true) (hF : ∀ k, F k → k < w.heap.size) (h : Gng w F b t (wrote t.ac) (readsF t.ac) N) (hen : t.en = -1) (hm : t.ac.length < 100000) (hN : N < 100000) :
    Calls Try.prog 63 #[.pointer (some ⟨b, 0, none⟩), .int .i64 pl, .agg #[.int .i64 2, .int .i64 th, .int .i64 tx, .int .i64 at_, .int .i64 ob, .int .i64 va, .int .i64 re]] w fun r w' => r = .returned (.bool false) ∧ Hid (Gng w' (Up F w w') b { t with ac := t.ac ++ [⟨pl, 2, ob, va, wrote t.ac ob, false⟩] } (wrote (t.ac ++ [⟨pl, 2, ob, va, wrote t.ac ob, false⟩])) (readsF (t.ac ++ [⟨pl, 2, ob, va, wrote t.ac ob, false⟩])) (N + 1)) ∧ Hid (Only F w w') := by
  obtain ⟨v, wm, rm, rd, h0⟩ := h.alloc hF (.cells #[.int .i64 2, .int .i64 th, .int .i64 tx, .int .i64 at_, .int .i64 ob, .int .i64 va, .int .i64 re] 51)
  obtain ⟨u, hu, hrow⟩ : ∃ u, (rd ob).getD (.slice none 0 0) = u ∧ (w.alloc (.cells #[.int .i64 2, .int .i64 th, .int .i64 tx, .int .i64 at_, .int .i64 ob, .int .i64 va, .int .i64 re] 51)).ownsRow 0 3 1 u (readsF t.ac ob).length ((readsF t.ac ob).map natV) := by
    cases e : rd ob with
    | none => exact ⟨_, rfl, by rw [h0.nope ob e]; exact World.ownsRow_nil _ _ _ _⟩
    | some u => exact ⟨u, rfl, h0.lst ob u e⟩
  obtain ⟨ua, uc, rfl⟩ := owns_slice hrow
  obtain ⟨va', vc', rfl⟩ := owns_slice h0.row
  have hune : ∀ k, (Value.slice ua (readsF t.ac ob).length uc).ownBlock = some k → k ≠ b ∧ k ≠ wm ∧ k ≠ rm ∧ k < (w.alloc (.cells #[.int .i64 2, .int .i64 th, .int .i64 tx, .int .i64 at_, .int .i64 ob, .int .i64 va, .int .i64 re] 51)).heap.size ∧ ∃ cs, (w.alloc (.cells #[.int .i64 2, .int .i64 th, .int .i64 tx, .int .i64 at_, .int .i64 ob, .int .i64 va, .int .i64 re] 51)).heap[k]? = some (.cells cs 3 (0, 0)) := fun k e => by
    cases hrd : rd ob with
    | none =>
      rw [hrd] at hu
      have h2 : (Value.slice none 0 0).ownBlock = some k := by rw [show (Value.slice none 0 0) = .slice ua (readsF t.ac ob).length uc from hu]; exact e
      cases h2
    | some x =>
      rw [hrd] at hu
      have := h0.rd_ne (show rd ob = some (.slice ua (readsF t.ac ob).length uc) by rw [hrd]; exact congrArg some hu) k e
      exact ⟨this.1, this.2.1, this.2.2.1, this.2.2.2.2, ownsRow_type hrow e⟩
  have GA := Lib.hid (World.grownBy_alloc w (.cells #[.int .i64 2, .int .i64 th, .int .i64 tx, .int .i64 at_, .int .i64 ob, .int .i64 va, .int .i64 re] 51) none)
  have EB := Lib.hid (Blk.made w 51 #[.int .i64 2, .int .i64 th, .int .i64 tx, .int .i64 at_, .int .i64 ob, .int .i64 va, .int .i64 re])
  obtain ⟨i0, hi0, hz00, hz10, hz20⟩ := info_parts infoInt
  have hi := Lib.hid hi0
  have hz0 := Lib.hid hz00
  have hz1 := Lib.hid hz10
  have hz2 := Lib.hid hz20
  have H := Lib.hid h0
  have HO := Lib.hid ho
  have EN := Lib.hid hen
  have HU := Lib.hid hu
  have RW := Lib.hid hrow
  have UN := Lib.hid hune
  have hrl := readsAt_len ob t.ac 0
  obtain ⟨n, hn⟩ : ∃ n, n = (readsF t.ac ob).length := ⟨_, rfl⟩
  have hn1 : n < 100000 := by rw [hn]; unfold readsF; omega
  rw [← hn] at HU RW UN
  have HN := Lib.hid hn
  clear h ho hen hF h0 hu hrow hune hi0 hz00 hz10 hz20 hn hrl
  go_enter Try.func63, Try.ntmps63
  go_upto_region 3 with fail
  generalize w.alloc _ = v1 at *
  generalize hp : w.heap.size = p at *
  have HP := Lib.hid hp
  clear hp
  have c8 : v1.cell? ⟨b, 8, none⟩ = some (.slice va' t.ac.length vc') := H.out.blk.cell 8
  have c10 : v1.cell? ⟨b, 10, none⟩ = some (.map (some rm)) := H.out.blk.cell 10
  have e4 : v1.cell? ⟨p, 4, none⟩ = some (.int .i64 ob) := EB.out.cell 4
  have bl := H.out.blk.lt
  have pl0 := EB.out.lt
  have hrb : rm ≠ b := H.out.rm_ne
  have hrp : rm ≠ p := H.out.rmap.ne_blk EB.out
  have hup : ∀ k, (Value.slice ua n uc).ownBlock = some k → k ≠ p := fun k e h => by
    obtain ⟨cs, hc⟩ := (UN.out k e).2.2.2.2
    have h2 := EB.out
    rw [h] at hc
    unfold Blk at h2
    rw [hc] at h2
    injection h2 with h2
    injection h2 with _ h3
    exact absurd h3 (by decide)
  have hget0 : (Instr.lookup 129 (.map (some rm)) (.int .i64 ob) false).run Try.prog v1.drew = .ok (.slice ua n uc) v1.drew := by
    have := (show MapG Try.prog 3 (Value.int .i64) v1.drew rm N rd from H.out.rmap).get kInt Try.underlying129 (zeroL _) (keyInt HO.out)
    rwa [HU.out] at this
  have hget1 : (Instr.lookup 129 (.map (some rm)) (.int .i64 ob) false).run Try.prog (v1.alloc (.cells #[.int .i64 t.ac.length] 3)).drew = .ok (.slice ua n uc) (v1.alloc (.cells #[.int .i64 t.ac.length] 3)).drew := by
    have := (show MapG Try.prog 3 (Value.int .i64) (v1.alloc (.cells #[.int .i64 t.ac.length] 3)).drew rm N rd from H.out.rmap.grown (show World.grownBy v1 (v1.alloc (.cells #[.int .i64 t.ac.length] 3)).drew none from (by repeat (first | exact gb_refl _ _ | refine gb_drewN ?_ _ | refine gb_drew ?_ | refine gb_alloc ?_ _))) (by simp)).get kInt Try.underlying129 (zeroL _) (keyInt HO.out)
    rwa [HU.out] at this
  go_wp2_with fail
  go_region_held_law (fun w' => w'.cell? ⟨b, 8, none⟩ = some (.slice va' t.ac.length vc') ∧ w'.cell? ⟨b, 10, none⟩ = some (.map (some rm)) ∧ w'.cell? ⟨p, 4, none⟩ = some (.int .i64 ob)) (go_keep) ((refine step_append_at rfl (.tmp 23) (.tmp 30) 25 rfl 0 3 i0 (.int .i64 0) 1 8 Try.underlying25 hi.out hz0.out hz1.out hz2.out rfl (by decide) (.slice ua n uc) n ((readsF t.ac ob).map natV) (by simp [Act.eval]) ((RW.out.alloc _).drew) ⟨v1.heap.size, 0, none⟩ 1 1 [.int .i64 t.ac.length] (by simp [Act.eval]) rfl (new_cells v1.drew _ _) (by simp [Value.oneCell']) (by unfold maxLen; omega) (by omega) (by simp) (by decide) ?_; intro g' c' w1 ho1 hg1 hv1; have B1 := ((H.out.blk.alloc (.cells #[.int .i64 t.ac.length] 3)).drew).grown hg1 (by intro h9; exact (UN.out _ h9.symm).1 rfl); have E1 := ((EB.out.alloc (.cells #[.int .i64 t.ac.length] 3)).drew).grown hg1 (by intro h9; exact hup _ h9.symm rfl); obtain ⟨u3, hU, hm3, hg3⟩ := ((H.out.rmap.grown (show World.grownBy v1 (v1.alloc (.cells #[.int .i64 t.ac.length] 3)).drew none from (by repeat (first | exact gb_refl _ _ | refine gb_drewN ?_ _ | refine gb_drew ?_ | refine gb_alloc ?_ _))) (by simp)).grown hg1 (by intro h9; exact (UN.out _ h9.symm).2.2.1 rfl)).set kInt vint_inj Try.underlying129 (by unfold maxLen; omega) (keyInt HO.out) (.slice (some ⟨g', 0, none⟩) (n + 1) c'); have x8 : w1.cell? ⟨b, 8, none⟩ = some (.slice va' t.ac.length vc') := B1.cell 8; have x10 : w1.cell? ⟨b, 10, none⟩ = some (.map (some rm)) := B1.cell 10; have x4 : w1.cell? ⟨p, 4, none⟩ = some (.int .i64 ob) := E1.cell 4; have B3 := Lib.hid (B1.grown hg3 (by simp; exact fun e => hrb e.symm)); have E3 := Lib.hid (E1.grown hg3 (by simp; exact fun e => hrp e.symm)); have y8 : u3.cell? ⟨b, 8, none⟩ = some (.slice va' t.ac.length vc') := B3.out.cell 8; have y10 : u3.cell? ⟨b, 10, none⟩ = some (.map (some rm)) := B3.out.cell 10; have y4 : u3.cell? ⟨p, 4, none⟩ = some (.int .i64 ob) := E3.out.cell 4; have G1 := Lib.hid hg1; have G3 := Lib.hid hg3; have M3 := Lib.hid hm3; have O1 := Lib.hid ho1; have V1 := Lib.hid hv1; clear hg1 hg3 hm3 ho1 hv1 B1 E1))
  all_goals
    have hgm : ∀ k, (some g' : Option Nat) = some k → k ≠ rm := fun k e h => by
      cases e
      obtain ⟨cs, hc⟩ := ownsRow_type O1.out (k := g') rfl
      have hm1 := (H.out.rmap.grown (show World.grownBy v1 (v1.alloc (.cells #[.int .i64 t.ac.length] 3)).drew none from (by repeat (first | exact gb_refl _ _ | refine gb_drewN ?_ _ | refine gb_drew ?_ | refine gb_alloc ?_ _))) (by simp)).grown G1.out (by intro h9; exact (UN.out _ h9.symm).2.2.1 rfl)
      exact hm1.not_cells (h ▸ hc)
    have hns : n + 1 = (readsF t.ac ob ++ [t.ac.length]).length := by rw [List.length_append, ← HN.out]; rfl
    obtain ⟨q1, q2⟩ := H.out.push ob (.slice (some ⟨g', 0, none⟩) (n + 1) c') (readsF t.ac ob ++ [t.ac.length])
      (((Only.none (show World.grownBy v1 (v1.alloc (.cells #[.int .i64 t.ac.length] 3)).drew none from (by repeat (first | exact gb_refl _ _ | refine gb_drewN ?_ _ | refine gb_drew ?_ | refine gb_alloc ?_ _)))).trans (Only.of G1.out (fun k e _ => .inr (by rw [HU.out]; exact e)))).trans (Only.of G3.out (fun k e _ => .inl (by cases e; rfl)))) M3.out
      (by
        rw [← hns, List.map_append]
        exact ownsRow_keep O1.out (fun k e => G3.out.block k ((O1.out).lt k e).2 (by simp; exact hgm k e)))
      (by
        rw [HU.out]
        rcases V1.out with h | h
        · exact .inl h
        · exact .inr ⟨g', rfl, by simp at h; omega⟩)
    have Q1 := Lib.hid q1
    have Q2 := Lib.hid q2
    obtain ⟨u4, hU4⟩ : ∃ u : World, u = u3.drew := ⟨_, rfl⟩
    have Q1 := Lib.hid (q1.keep (w' := u4) (G := Up F v1 u3) (fun _ _ => by rw [hU4]; rfl) (fun _ h => h))
    have Q2 := Lib.hid (show Only F v1 u4 by rw [hU4]; exact q2.trans (Only.none (gb_drew (gb_refl u3 none))))
    have E4 := Lib.hid (show Blk 51 u4 p #[.int .i64 2, .int .i64 th, .int .i64 tx, .int .i64 at_, .int .i64 ob, .int .i64 va, .int .i64 re] by rw [hU4]; exact E3.out)
    have hU5 := Lib.hid hU4
    have HSZ := Lib.hid (show u3.heap.size = u4.heap.size by rw [hU4]; rfl)
    have hgw : (Instr.lookup 128 (.map (some wm)) (.int .i64 ob) false).run Try.prog u4 = .ok (.bool (wrote t.ac ob)) u4 := by
      have := Q1.out.wmap.get kInt Try.underlying128 (zeroB _) (keyInt HO.out)
      rw [this]
      unfold wroteV
      cases wrote t.ac ob <;> rfl
    have c9 : u4.cell? ⟨b, 9, none⟩ = some (.map (some wm)) := Q1.out.blk.cell 9
    have r0 : u4.cell? ⟨p, 0, none⟩ = some (.int .i64 2) := E4.out.cell 0
    have r1 : u4.cell? ⟨p, 1, none⟩ = some (.int .i64 th) := E4.out.cell 1
    have r2 : u4.cell? ⟨p, 2, none⟩ = some (.int .i64 tx) := E4.out.cell 2
    have r3 : u4.cell? ⟨p, 3, none⟩ = some (.int .i64 at_) := E4.out.cell 3
    have r4 : u4.cell? ⟨p, 4, none⟩ = some (.int .i64 ob) := E4.out.cell 4
    have r5 : u4.cell? ⟨p, 5, none⟩ = some (.int .i64 va) := E4.out.cell 5
    have r6 : u4.cell? ⟨p, 6, none⟩ = some (.int .i64 re) := E4.out.cell 6
    go_wp2_with fail
    refine wp_region_still_tail 10 (by kernel_rfl) (by kernel_rfl) ?_
    simp only [List.take_succ_cons, List.take_zero, List.drop_succ_cons, List.drop_zero]
    change wpStill _ _ u3.drew (fun a' => wpList _ _ _ _ a' u3.drew) _ _
    rw [← hU4]
    clear hU4 q1 q2 hgm hns x8 x10 x4 y8 y10 y4 hU M3 O1 V1 G1 G3 E3 B3 hget0 hget1 c8 c10 e4
    repeat still_step
    refine wpStill_nil ?_
    go_wp2_with (first | (go_at_call 73; refine (access_any u4 (Up F v1 u3) b t _ _ (N + 1) pl ⟨2, th, tx, at_, ob, va, re⟩ (wrote t.ac ob) ⟨_, _, _, _, Q1.out⟩ (by omega)).mono ?_; rintro r u5 ⟨rfl, g5, o5⟩; have c5 : u5.cell? ⟨b, 5, none⟩ = some (.int .i64 (-1)) := g5.out.at 5 (by omega) (by simp [trC, EN.out])) | go_in)
    go_ret
    have z1 := GA.out.size
    have z2 := Q2.out.size
    have z3 := o5.out.size
    have z4 := HSZ.out
    have z5 := HP.out
    refine ⟨rfl, g5.out.wide (fun k hk => ?_) (funext fun o => wrote_read _ _ _ _ _ _ _) (readsF_read _ _ _ _ _), only_later ((Only.none GA.out).trans Q2.out) o5.out (fun k hk h => ?_)⟩
    · rcases hk with (hk | hk) | hk
      · exact .inl hk
      · exact .inr ⟨by omega, by omega⟩
      · exact .inr ⟨by omega, hk.2⟩
    · rcases h with h | h
      · exact h
      · omega
end Go.Proofs.Ytkidkhjpijjphaa.hs

/- A try begins: hist's begun. -/
namespace Go.Proofs.Ytkidkhjpijjphaa.hs
open Go Go.RowKit Go.Proofs.Ytkidkhjpijjphaa.base Go.Maps
set_option linter.unusedVariables false
set_option maxRecDepth 100000

set_option maxHeartbeats 1000000 in
theorem begun_any (pl : Nat) (e : Ev) (w : World) :
    Calls Try.prog 62 #[.int .i64 pl, .agg #[.int .i64 e.k, .int .i64 e.th, .int .i64 e.tx, .int .i64 e.at_, .int .i64 e.ob, .int .i64 e.va, .int .i64 e.re]] w fun r w' => ∃ b, r = .returned (.pointer (some ⟨b, 0, none⟩)) ∧ Hid (Gng w' (fun k => w.heap.size ≤ k ∧ k < w'.heap.size) b (init pl e) (fun _ => false) (fun _ => []) 0) ∧ Hid (w.grownBy w' none) := by
  have hmm := @run_makeMap Try.prog
  go_enter Try.func62, Try.ntmps62
  go_wp2
  go_ret
  have G : w.grownBy (((((w.alloc (.cells #[.int .i64 e.k, .int .i64 e.th, .int .i64 e.tx, .int .i64 e.at_, .int .i64 e.ob, .int .i64 e.va, .int .i64 e.re] 51)).alloc (.cells #[.int .i64 e.th, .int .i64 e.tx, .int .i64 e.at_, .int .i64 e.va, .int .i64 pl, .int .i64 (-1), .int .i64 0, .bool false, .slice none 0 0] 41)).alloc (.map #[] 0)).alloc (.map #[] 0)).alloc (.cells #[.int .i64 e.th, .int .i64 e.tx, .int .i64 e.at_, .int .i64 e.va, .int .i64 pl, .int .i64 (-1), .int .i64 0, .bool false, .slice none 0 0, .map (some (w.heap.size + 2)), .map (some (w.heap.size + 3))] 131)) none := (by repeat (first | exact gb_refl _ _ | refine gb_drewN ?_ _ | refine gb_drew ?_ | refine gb_alloc ?_ _))
  refine ⟨w.heap.size + 4, rfl, ⟨.slice none 0 0, w.heap.size + 2, w.heap.size + 3, fun _ => none, ?_, ?_, ?_, ?_, fun _ _ => rfl, by simp, by omega, by simp, by simp, by simp [Value.ownBlock], by simp, by simp, by simp⟩, G⟩
  · have := Blk.made ((((w.alloc (.cells #[.int .i64 e.k, .int .i64 e.th, .int .i64 e.tx, .int .i64 e.at_, .int .i64 e.ob, .int .i64 e.va, .int .i64 e.re] 51)).alloc (.cells #[.int .i64 e.th, .int .i64 e.tx, .int .i64 e.at_, .int .i64 e.va, .int .i64 pl, .int .i64 (-1), .int .i64 0, .bool false, .slice none 0 0] 41)).alloc (.map #[] 0)).alloc (.map #[] 0)) 131 #[.int .i64 e.th, .int .i64 e.tx, .int .i64 e.at_, .int .i64 e.va, .int .i64 pl, .int .i64 (-1), .int .i64 0, .bool false, .slice none 0 0, .map (some (w.heap.size + 2)), .map (some (w.heap.size + 3))]
    simp only [World.size_alloc] at this
    exact this
  · exact World.ownsRow_nil _ _ _ _
  · have := (MapG.made ((w.alloc (.cells #[.int .i64 e.k, .int .i64 e.th, .int .i64 e.tx, .int .i64 e.at_, .int .i64 e.ob, .int .i64 e.va, .int .i64 e.re] 51)).alloc (.cells #[.int .i64 e.th, .int .i64 e.tx, .int .i64 e.at_, .int .i64 e.va, .int .i64 pl, .int .i64 (-1), .int .i64 0, .bool false, .slice none 0 0] 41)) Try.prog 3 (Value.int .i64)).grown (w' := (((((w.alloc (.cells #[.int .i64 e.k, .int .i64 e.th, .int .i64 e.tx, .int .i64 e.at_, .int .i64 e.ob, .int .i64 e.va, .int .i64 e.re] 51)).alloc (.cells #[.int .i64 e.th, .int .i64 e.tx, .int .i64 e.at_, .int .i64 e.va, .int .i64 pl, .int .i64 (-1), .int .i64 0, .bool false, .slice none 0 0] 41)).alloc (.map #[] 0)).alloc (.map #[] 0)).alloc (.cells #[.int .i64 e.th, .int .i64 e.tx, .int .i64 e.at_, .int .i64 e.va, .int .i64 pl, .int .i64 (-1), .int .i64 0, .bool false, .slice none 0 0, .map (some (w.heap.size + 2)), .map (some (w.heap.size + 3))] 131))) (r := none) (by repeat (first | exact gb_refl _ _ | refine gb_drewN ?_ _ | refine gb_drew ?_ | refine gb_alloc ?_ _)) (by simp)
    simp only [World.size_alloc] at this
    exact this.congr (fun x kl _ => by simp [wroteV])
  · have := (MapG.made (((w.alloc (.cells #[.int .i64 e.k, .int .i64 e.th, .int .i64 e.tx, .int .i64 e.at_, .int .i64 e.ob, .int .i64 e.va, .int .i64 e.re] 51)).alloc (.cells #[.int .i64 e.th, .int .i64 e.tx, .int .i64 e.at_, .int .i64 e.va, .int .i64 pl, .int .i64 (-1), .int .i64 0, .bool false, .slice none 0 0] 41)).alloc (.map #[] 0)) Try.prog 3 (Value.int .i64)).grown (w' := (((((w.alloc (.cells #[.int .i64 e.k, .int .i64 e.th, .int .i64 e.tx, .int .i64 e.at_, .int .i64 e.ob, .int .i64 e.va, .int .i64 e.re] 51)).alloc (.cells #[.int .i64 e.th, .int .i64 e.tx, .int .i64 e.at_, .int .i64 e.va, .int .i64 pl, .int .i64 (-1), .int .i64 0, .bool false, .slice none 0 0] 41)).alloc (.map #[] 0)).alloc (.map #[] 0)).alloc (.cells #[.int .i64 e.th, .int .i64 e.tx, .int .i64 e.at_, .int .i64 e.va, .int .i64 pl, .int .i64 (-1), .int .i64 0, .bool false, .slice none 0 0, .map (some (w.heap.size + 2)), .map (some (w.heap.size + 3))] 131))) (r := none) (by repeat (first | exact gb_refl _ _ | refine gb_drewN ?_ _ | refine gb_drew ?_ | refine gb_alloc ?_ _)) (by simp)
    simp only [World.size_alloc] at this
    exact this
end Go.Proofs.Ytkidkhjpijjphaa.hs

/- The tries that go on, by their threads: hist's map of them. -/
namespace Go.Proofs.Ytkidkhjpijjphaa.hs
open Go Go.RowKit Go.Proofs.Ytkidkhjpijjphaa.base Go.Maps
set_option linter.unusedVariables false
set_option maxRecDepth 100000

theorem does_any (w : World) (F : Nat → Prop) (b : Nat) (t : Tr) (N : Nat) (pl : Nat) (e : Ev) (he : Ev.Wf e) (hk : 2 ≤ e.k ∧ e.k ≤ 6) (hF : ∀ k, F k → k < w.heap.size) (h : Gng w F b t (wrote t.ac) (readsF t.ac) N) (hen : t.en = -1) (hm : t.ac.length < 100000) (hN : N < 100000) :
    Calls Try.prog 63 #[.pointer (some ⟨b, 0, none⟩), .int .i64 pl, .agg #[.int .i64 e.k, .int .i64 e.th, .int .i64 e.tx, .int .i64 e.at_, .int .i64 e.ob, .int .i64 e.va, .int .i64 e.re]] w fun r w' => r = .returned (.bool (decide (e.k = 5 ∨ e.k = 6))) ∧ Hid (Gng w' (Up F w w') b (base.stepT t pl e) (wrote (base.stepT t pl e).ac) (readsF (base.stepT t pl e).ac) (N + 1)) ∧ Hid (Only F w w') := by
  obtain ⟨k, th, tx, at_, ob, va, re⟩ := e
  have hk2 : k = 2 ∨ k = 3 ∨ k = 4 ∨ k = 5 ∨ k = 6 := by dsimp only at hk; omega
  rcases hk2 with rfl | rfl | rfl | rfl | rfl
  · exact does_read w F b t N pl th tx at_ ob va re he.ob hF h hen hm hN
  · exact does_write w F b t N pl th tx at_ ob va re he.ob hF h hen hm hN
  · exact does_release w F b t N pl th tx at_ ob va re he.ob hF h hen hm hN
  · exact does_commit w F b t N pl th tx at_ ob va re he.ob hF h hen hm hN
  · exact does_abort w F b t N pl th tx at_ ob va re he.ob hF h hen hm hN

def ptrV (x : Nat × Tr) : Value := .pointer (some ⟨x.1, 0, none⟩)

/-- Block om is the map of the tries that go on: G says for each thread in which block its try lies, and what it is; it lies in the blocks of Fo; all from block B on. -/
structure Opn (B : Nat) (W : World) (om N : Nat) (G : Int → Option (Nat × Tr)) (Fo : Int → Nat → Prop) : Prop where
  map : MapG Try.prog 3 (Value.int .i64) W om N (fun th => (G th).map ptrV)
  gng : ∀ th b t, G th = some (b, t) → Gng W (Fo th) b t (wrote t.ac) (readsF t.ac) N
  lt : ∀ th k, G th ≠ none → Fo th k → B ≤ k ∧ k < W.heap.size ∧ k ≠ om
  apart : ∀ th th' k, G th ≠ none → G th' ≠ none → Fo th k → Fo th' k → th = th'
  om_le : B ≤ om

/-- The blocks of all of it. -/
def OpnF (om : Nat) (G : Int → Option (Nat × Tr)) (Fo : Int → Nat → Prop) : Nat → Prop := fun k => k = om ∨ ∃ th, G th ≠ none ∧ Fo th k

open Classical in
noncomputable def updG (G : Int → Option (Nat × Tr)) (th : Int) (x : Option (Nat × Tr)) : Int → Option (Nat × Tr) := fun p => if p = th then x else G p
open Classical in
noncomputable def updFo (Fo : Int → Nat → Prop) (th : Int) (F : Nat → Prop) : Int → Nat → Prop := fun p => if p = th then F else Fo p
theorem updG_same (G : Int → Option (Nat × Tr)) (th : Int) (x : Option (Nat × Tr)) : updG G th x th = x := by simp [updG]
theorem updG_other (G : Int → Option (Nat × Tr)) {th p : Int} (x : Option (Nat × Tr)) (h : p ≠ th) : updG G th x p = G p := by simp [updG, h]
theorem updFo_same (Fo : Int → Nat → Prop) (th : Int) (F : Nat → Prop) : updFo Fo th F th = F := by simp [updFo]
theorem updFo_other (Fo : Int → Nat → Prop) {th p : Int} (F : Nat → Prop) (h : p ≠ th) : updFo Fo th F p = Fo p := by simp [updFo, h]

section
variable {B : Nat} {W W' : World} {om N : Nat} {G : Int → Option (Nat × Tr)} {Fo : Int → Nat → Prop}
theorem Opn.frame (h : Opn B W om N G Fo) (hk : ∀ k, OpnF om G Fo k → W'.heap[k]? = W.heap[k]?) (hs : W.heap.size ≤ W'.heap.size) : Opn B W' om N G Fo :=
  ⟨h.map.keep (hk _ (.inl rfl)), fun th b t e => (h.gng th b t e).keep (fun k hF => hk _ (.inr ⟨th, by rw [e]; simp, hF⟩)), fun th k e hF => ⟨(h.lt th k e hF).1, Nat.lt_of_lt_of_le (h.lt th k e hF).2.1 hs, (h.lt th k e hF).2.2⟩, h.apart, h.om_le⟩
theorem Opn.grown (h : Opn B W om N G Fo) (g : W.grownBy W' none) : Opn B W' om N G Fo :=
  h.frame (fun k hk => g.block k (by rcases hk with rfl | ⟨th, h1, h2⟩; exact h.map.lt; exact (h.lt th k h1 h2).2.1) (by simp)) g.size
theorem Opn.more (h : Opn B W om N G Fo) : Opn B W om (N + 1) G Fo :=
  ⟨h.map.more (Nat.le_succ _), fun th b t e => (h.gng th b t e).more (fun _ h => h), h.lt, h.apart, h.om_le⟩
theorem OpnF.lt (h : Opn B W om N G Fo) {k : Nat} (hk : OpnF om G Fo k) : B ≤ k ∧ k < W.heap.size := by
  rcases hk with rfl | ⟨th, h1, h2⟩
  · exact ⟨h.om_le, h.map.lt⟩
  · exact ⟨(h.lt th k h1 h2).1, (h.lt th k h1 h2).2.1⟩

/-- An event of a try that goes on. -/
theorem Opn.step (h : Opn B W om N G Fo) {th : Int} {b : Nat} {t t' : Tr} (e : G th = some (b, t)) (hg : Gng W' (Up (Fo th) W W') b t' (wrote t'.ac) (readsF t'.ac) (N + 1)) (ho : Only (Fo th) W W') (hB : B ≤ W.heap.size) :
    Opn B W' om (N + 1) (updG G th (some (b, t'))) (updFo Fo th (Up (Fo th) W W')) := by
  have hne : G th ≠ none := by rw [e]; simp
  have hold : ∀ p k, p ≠ th → G p ≠ none → Fo p k → ¬ Fo th k := fun p k hp h1 h2 h3 => hp (h.apart p th k h1 hne h2 h3)
  refine ⟨((h.map.keep (ho.block _ h.map.lt (fun h1 => (h.lt th om hne h1).2.2 rfl))).more (Nat.le_succ _)).congr (fun x _ _ => ?_), fun p b' t'' hp => ?_, fun p k hp hk => ?_, fun p q k hp hq hk hk' => ?_, h.om_le⟩
  · by_cases hx : x = th
    · subst hx
      rw [updG_same, e]
      rfl
    · rw [updG_other _ _ hx]
  · by_cases hx : p = th
    · subst hx
      rw [updG_same] at hp
      cases hp
      rw [updFo_same]
      exact hg
    · rw [updG_other _ _ hx] at hp
      rw [updFo_other _ _ hx]
      exact ((h.gng p b' t'' hp).keep (fun k hk => ho.block k (h.lt p k (by rw [hp]; simp) hk).2.1 (hold p k hx (by rw [hp]; simp) hk))).more (fun _ h => h)
  · by_cases hx : p = th
    · subst hx
      rw [updFo_same] at hk
      have := h.map.lt
      rcases hk with hk | hk
      · have := h.lt p k hne hk
        exact ⟨this.1, Nat.lt_of_lt_of_le this.2.1 ho.size, this.2.2⟩
      · exact ⟨by omega, hk.2, by omega⟩
    · rw [updG_other _ _ hx] at hp
      rw [updFo_other _ _ hx] at hk
      have := h.lt p k hp hk
      exact ⟨this.1, Nat.lt_of_lt_of_le this.2.1 ho.size, this.2.2⟩
  · by_cases hx : p = th
    · by_cases hy : q = th
      · rw [hx, hy]
      · subst hx
        rw [updFo_same] at hk
        rw [updG_other _ _ hy] at hq
        rw [updFo_other _ _ hy] at hk'
        rcases hk with hk | hk
        · exact absurd hk (hold q k hy hq hk')
        · have := h.lt q k hq hk'
          omega
    · rw [updG_other _ _ hx] at hp
      rw [updFo_other _ _ hx] at hk
      by_cases hy : q = th
      · subst hy
        rw [updFo_same] at hk'
        rcases hk' with hk' | hk'
        · exact absurd hk' (hold p k hx hp hk)
        · have := h.lt p k hp hk
          omega
      · rw [updG_other _ _ hy] at hq
        rw [updFo_other _ _ hy] at hk'
        exact h.apart p q k hp hq hk hk'

/-- A try begins. -/
theorem Opn.put {W'' : World} (h : Opn B W om N G Fo) (th : Int) {b : Nat} {t : Tr} {Fn : Nat → Prop} (g : W.grownBy W' none) (hg : Gng W' Fn b t (wrote t.ac) (readsF t.ac) 0) (hn : ∀ k, Fn k → W.heap.size ≤ k ∧ k < W'.heap.size) (hB : B ≤ W.heap.size)
    (hm : MapG Try.prog 3 (Value.int .i64) W'' om (N + 1) (upd (fun th => (G th).map ptrV) th (some (ptrV (b, t))))) (g2 : W'.grownBy W'' (some om)) :
    Opn B W'' om (N + 1) (updG G th (some (b, t))) (updFo Fo th Fn) := by
  have hl := h.map.lt
  have keepN : ∀ {F : Nat → Prop} {b : Nat} {t : Tr} {Wf : Int → Bool} {R : Int → List Nat} (m : Nat), Gng W'' F b t Wf R 0 → Gng W'' F b t Wf R m := fun m => by
    induction m with
    | zero => exact fun h => h
    | succ m ih => exact fun h => (ih h).more (fun _ h => h)
  refine ⟨hm.congr (fun x _ _ => ?_), fun p b' t'' hp => ?_, fun p k hp hk => ?_, fun p q k hp hq hk hk' => ?_, h.om_le⟩
  · by_cases hx : x = th
    · subst hx
      rw [updG_same, upd_same]
      rfl
    · rw [updG_other _ _ hx, upd_other _ _ hx]
  · by_cases hx : p = th
    · subst hx
      rw [updG_same] at hp
      cases hp
      rw [updFo_same]
      exact keepN _ (hg.keep (fun k hk => g2.block k (hn k hk).2 (by have := hn k hk; simp; omega)))
    · rw [updG_other _ _ hx] at hp
      rw [updFo_other _ _ hx]
      exact ((h.gng p b' t'' hp).keep (fun k hk => by
        have h1 := h.lt p k (by rw [hp]; simp) hk
        exact (g2.block k (Nat.lt_of_lt_of_le h1.2.1 g.size) (by simp; exact h1.2.2)).trans (g.block k h1.2.1 (by simp)))).more (fun _ h => h)
  · have hsz := g2.size
    have hsz1 := g.size
    by_cases hx : p = th
    · subst hx
      rw [updFo_same] at hk
      have := hn k hk
      exact ⟨by omega, by omega, by omega⟩
    · rw [updG_other _ _ hx] at hp
      rw [updFo_other _ _ hx] at hk
      have := h.lt p k hp hk
      exact ⟨this.1, by omega, this.2.2⟩
  · by_cases hx : p = th
    · by_cases hy : q = th
      · rw [hx, hy]
      · subst hx
        rw [updFo_same] at hk
        rw [updG_other _ _ hy] at hq
        rw [updFo_other _ _ hy] at hk'
        have := h.lt q k hq hk'
        have := hn k hk
        omega
    · rw [updG_other _ _ hx] at hp
      rw [updFo_other _ _ hx] at hk
      by_cases hy : q = th
      · subst hy
        rw [updFo_same] at hk'
        have := h.lt p k hp hk
        have := hn k hk'
        omega
      · rw [updG_other _ _ hy] at hq
        rw [updFo_other _ _ hy] at hk'
        exact h.apart p q k hp hq hk hk'

/-- A try has ended. -/
theorem Opn.del (h : Opn B W om N G Fo) (th : Int) (hm : MapG Try.prog 3 (Value.int .i64) W' om N (upd (fun th => (G th).map ptrV) th none)) (g : W.grownBy W' (some om)) :
    Opn B W' om N (updG G th none) Fo := by
  have back : ∀ p, updG G th none p ≠ none → p ≠ th ∧ G p ≠ none := fun p hp => by
    by_cases hx : p = th
    · subst hx
      rw [updG_same] at hp
      exact absurd rfl hp
    · rw [updG_other _ _ hx] at hp
      exact ⟨hx, hp⟩
  refine ⟨hm.congr (fun x _ _ => ?_), fun p b' t'' hp => ?_, fun p k hp hk => ?_, fun p q k hp hq hk hk' => h.apart p q k (back p hp).2 (back q hq).2 hk hk', h.om_le⟩
  · by_cases hx : x = th
    · subst hx
      rw [updG_same, upd_same]
      rfl
    · rw [updG_other _ _ hx, upd_other _ _ hx]
  · have h1 := back p (by rw [hp]; simp)
    rw [updG_other _ _ h1.1] at hp
    exact (h.gng p b' t'' hp).keep (fun k hk => by
      have h2 := h.lt p k h1.2 hk
      exact g.block k h2.2.1 (by simp; exact h2.2.2))
  · have h2 := h.lt p k (back p hp).2 hk
    exact ⟨h2.1, Nat.lt_of_lt_of_le h2.2.1 g.size, h2.2.2⟩
end
end Go.Proofs.Ytkidkhjpijjphaa.hs

/- What stands at the head of each round of the loop over a trace's events, one event on. -/
namespace Go.Proofs.Ytkidkhjpijjphaa.hs
open Go Go.RowKit Go.Proofs.Ytkidkhjpijjphaa.base Go.Maps
set_option linter.unusedVariables false
set_option maxRecDepth 100000

/-- At the head of the first loop's round. -/
def Rel1 (w0 : World) (om len : Nat) (e : Evs) (J : List (Tr × Value) → World → (Nat → Prop) → Prop) (i : Nat) (wr : World) (G : Int → Option (Nat × Tr)) (Fo : Int → Nat → Prop) (Fc : Nat → Prop) (xs : List (Tr × Value)) : Prop :=
  Opn w0.heap.size wr om i G Fo ∧ (∀ th, (G th).map Prod.snd = (opn e i th).map (fun b => trAt e b i)) ∧ J xs wr Fc ∧ xs.map Prod.fst = (ended e i).map (fun b => trAt e b len) ∧ (∀ k, Fc k → ¬ OpnF om G Fo k) ∧ (∀ k, Fc k → w0.heap.size ≤ k ∧ k < wr.heap.size) ∧ Below w0.heap.size w0 wr

def Firm2 (J : List (Tr × Value) → World → (Nat → Prop) → Prop) : Prop := ∀ pre W W' Fc, J pre W Fc → (∀ k, Fc k → W'.heap[k]? = W.heap[k]?) → J pre W' Fc

section
variable {w0 wr v1 u1 u2 : World} {om len i : Nat} {e : Evs} {J : List (Tr × Value) → World → (Nat → Prop) → Prop} {G : Int → Option (Nat × Tr)} {Fo : Int → Nat → Prop} {Fc : Nat → Prop} {xs : List (Tr × Value)}


/-- What is done beside all of it. -/
theorem Rel1.grown (h : Rel1 w0 om len e J i wr G Fo Fc xs) (firm : Firm2 J) (g : wr.grownBy v1 none) : Rel1 w0 om len e J i v1 G Fo Fc xs := by
  obtain ⟨h1, h2, h3, h4, h5, h6, h7⟩ := h
  exact ⟨h1.grown g, h2, firm _ _ _ _ h3 (fun k hk => g.block k (h6 k hk).2 (by simp)), h4, h5, fun k hk => ⟨(h6 k hk).1, Nat.lt_of_lt_of_le (h6 k hk).2 g.size⟩, bl_none h7 g⟩

/-- An event of no try that goes on, that begins none. -/
theorem rel1_skip (h : Rel1 w0 om len e J i wr G Fo Fc xs) (ho : opn e i (e i).th = none) (h1 : (e i).k ≠ 1) : Rel1 w0 om len e J (i + 1) wr G Fo Fc xs := by
  obtain ⟨r1, r2, r3, r4, r5, r6, r7⟩ := h
  refine ⟨r1.more, fun th => ?_, r3, ?_, r5, r6, r7⟩
  · rw [r2 th]
    have hop : opn e (i + 1) th = opn e i th := by
      rw [opn]
      by_cases hth : (e i).th = th
      · subst hth
        rw [if_pos rfl, if_neg h1, ho]
        split <;> rfl
      · rw [if_neg hth]
    rw [hop]
    cases hb : opn e i th with
    | none => rfl
    | some b =>
      have hth : (e i).th ≠ th := fun e1 => by rw [e1, hb] at ho; cases ho
      simp only [Option.map_some]
      rw [trAt_other e hb hth]
  · rw [r4, ended, ho]

/-- A try begins. -/
theorem rel1_put (h : Rel1 w0 om len e J i v1 G Fo Fc xs) (firm : Firm2 J) (ho : opn e i (e i).th = none) (h1 : (e i).k = 1) {bn : Nat} {ev : Ev} (hev : init i ev = init i (e i)) (g : v1.grownBy u1 none)
    (hg : Gng u1 (fun k => v1.heap.size ≤ k ∧ k < u1.heap.size) bn (init i ev) (fun _ => false) (fun _ => []) 0) (hm : MapG Try.prog 3 (Value.int .i64) u2 om (i + 1) (upd (fun th => (G th).map ptrV) (e i).th (some (.pointer (some ⟨bn, 0, none⟩))))) (g2 : u1.grownBy u2 (some om)) :
    ∃ G' Fo', Rel1 w0 om len e J (i + 1) u2 G' Fo' Fc xs := by
  obtain ⟨r1, r2, r3, r4, r5, r6, r7⟩ := h
  have hom := r1.map.lt
  have P := r1.put (e i).th (W'' := u2) (t := init i ev) g hg (fun k hk => hk) r7.size hm g2
  refine ⟨_, _, P, fun th => ?_, firm _ _ _ _ r3 (fun k hk => ?_), ?_, fun k hk hO => ?_, fun k hk => ⟨(r6 k hk).1, ?_⟩, ?_⟩
  · by_cases hth : th = (e i).th
    · subst hth
      rw [updG_same, opn, if_pos rfl, if_pos h1]
      simp only [Option.map_some]
      rw [trAt_init e i (i + 1) (Nat.le_refl _), hev]
    · rw [updG_other _ _ hth, r2 th, opn, if_neg (fun e1 => hth e1.symm)]
      cases hb : opn e i th with
      | none => rfl
      | some b =>
        simp only [Option.map_some]
        rw [trAt_other e hb (fun e1 => hth e1.symm)]
  · have hl := (r6 k hk).2
    exact (g2.block k (Nat.lt_of_lt_of_le hl g.size) (by simp; exact fun e1 => r5 k hk (.inl e1))).trans (g.block k hl (by simp))
  · rw [r4, ended, ho]
  · rcases hO with hO | ⟨th, hn, hF⟩
    · exact r5 k hk (.inl hO)
    · by_cases hth : th = (e i).th
      · subst hth
        rw [updFo_same] at hF
        have := (r6 k hk).2
        omega
      · rw [updG_other _ _ hth] at hn
        rw [updFo_other _ _ hth] at hF
        exact r5 k hk (.inr ⟨th, hn, hF⟩)
  · exact Nat.lt_of_lt_of_le (Nat.lt_of_lt_of_le (r6 k hk).2 g.size) g2.size
  · exact (bl_none r7 g).grown g2 (Nat.le_trans r7.size g.size) (fun k e1 => by cases e1; exact r1.om_le)

theorem G_of (h : Rel1 w0 om len e J i wr G Fo Fc xs) {th : Int} {b : Nat} (ho : opn e i th = some b) : ∃ bk, G th = some (bk, trAt e b i) := by
  have := h.2.1 th
  rw [ho] at this
  cases hG : G th with
  | none => rw [hG] at this; cases this
  | some x =>
    obtain ⟨bk, t⟩ := x
    rw [hG] at this
    simp only [Option.map_some, Option.some.injEq] at this
    exact ⟨bk, by rw [this]⟩
theorem G_no (h : Rel1 w0 om len e J i wr G Fo Fc xs) {th : Int} (ho : opn e i th = none) : G th = none := by
  have := h.2.1 th
  rw [ho] at this
  cases hG : G th with
  | none => rfl
  | some x => rw [hG] at this; cases this

/-- An event of a try that goes on, that doesn't end it. -/
theorem rel1_does (h : Rel1 w0 om len e J i v1 G Fo Fc xs) (firm : Firm2 J) {b bk : Nat} (ho : opn e i (e i).th = some b) (hG : G (e i).th = some (bk, trAt e b i)) (h1 : (e i).k ≠ 1) (h56 : ¬ ((e i).k = 5 ∨ (e i).k = 6))
    (hg : Gng u1 (Up (Fo (e i).th) v1 u1) bk (base.stepT (trAt e b i) i (e i)) (wrote (base.stepT (trAt e b i) i (e i)).ac) (readsF (base.stepT (trAt e b i) i (e i)).ac) (i + 1)) (go : Only (Fo (e i).th) v1 u1) :
    ∃ G' Fo', Rel1 w0 om len e J (i + 1) u1 G' Fo' Fc xs := by
  obtain ⟨r1, r2, r3, r4, r5, r6, r7⟩ := h
  have hne : G (e i).th ≠ none := by rw [hG]; simp
  have P := r1.step hG hg go r7.size
  refine ⟨_, _, P, fun th => ?_, firm _ _ _ _ r3 (fun k hk => go.block k (r6 k hk).2 (fun hF => r5 k hk (.inr ⟨_, hne, hF⟩))), ?_, fun k hk hO => ?_, fun k hk => ⟨(r6 k hk).1, Nat.lt_of_lt_of_le (r6 k hk).2 go.size⟩, go.below r7 r7.size (fun k hF => (r1.lt _ k hne hF).1)⟩
  · by_cases hth : th = (e i).th
    · subst hth
      rw [updG_same, opn, if_pos rfl, if_neg h1, if_neg h56, ho]
      simp only [Option.map_some]
      rw [trAt_step e ho]
    · rw [updG_other _ _ hth, r2 th, opn, if_neg (fun e1 => hth e1.symm)]
      cases hb : opn e i th with
      | none => rfl
      | some b =>
        simp only [Option.map_some]
        rw [trAt_other e hb (fun e1 => hth e1.symm)]
  · rw [r4, ended, ho]
    simp only [if_neg h56]
  · rcases hO with hO | ⟨th, hn, hF⟩
    · exact r5 k hk (.inl hO)
    · by_cases hth : th = (e i).th
      · subst hth
        rw [updFo_same] at hF
        rcases hF with hF | hF
        · exact r5 k hk (.inr ⟨_, hne, hF⟩)
        · have := (r6 k hk).2
          omega
      · rw [updG_other _ _ hth] at hn
        rw [updFo_other _ _ hth] at hF
        exact r5 k hk (.inr ⟨th, hn, hF⟩)

/-- What stands when a try has ended, and is no more in the map. -/
def Mid (w0 : World) (om len : Nat) (e : Evs) (J : List (Tr × Value) → World → (Nat → Prop) → Prop) (i : Nat) (th : Int) (wr : World) (G : Int → Option (Nat × Tr)) (Fo : Int → Nat → Prop) (Fc : Nat → Prop) (xs : List (Tr × Value)) : Prop :=
  Opn w0.heap.size wr om (i + 1) G Fo ∧ (∀ th, (G th).map Prod.snd = (opn e (i + 1) th).map (fun b => trAt e b (i + 1))) ∧ J xs wr Fc ∧ xs.map Prod.fst = (ended e i).map (fun b => trAt e b len) ∧ (∀ k, Fc k → ¬ OpnF om G Fo k) ∧ (∀ k, Fc k → w0.heap.size ≤ k ∧ k < wr.heap.size) ∧ Below w0.heap.size w0 wr ∧ G th = none ∧ (∀ k, Fo th k → ¬ Fc k ∧ w0.heap.size ≤ k ∧ k < wr.heap.size ∧ ¬ OpnF om G Fo k)

theorem rel1_mid (h : Rel1 w0 om len e J i v1 G Fo Fc xs) (firm : Firm2 J) {b bk : Nat} (ho : opn e i (e i).th = some b) (hG : G (e i).th = some (bk, trAt e b i)) (h56 : (e i).k = 5 ∨ (e i).k = 6)
    (hg : Gng u1 (Up (Fo (e i).th) v1 u1) bk (base.stepT (trAt e b i) i (e i)) (wrote (base.stepT (trAt e b i) i (e i)).ac) (readsF (base.stepT (trAt e b i) i (e i)).ac) (i + 1)) (go : Only (Fo (e i).th) v1 u1)
    (hm : MapG Try.prog 3 (Value.int .i64) u2 om (i + 1) (upd (fun th => (G th).map ptrV) (e i).th none)) (g2 : u1.grownBy u2 (some om)) :
    ∃ G' Fo', Mid w0 om len e J i (e i).th u2 G' Fo' Fc xs ∧ Fo' (e i).th = Up (Fo (e i).th) v1 u1 ∧ Gng u2 (Up (Fo (e i).th) v1 u1) bk (trAt e b (i + 1)) (wrote (trAt e b (i + 1)).ac) (readsF (trAt e b (i + 1)).ac) (i + 1) := by
  obtain ⟨r1, r2, r3, r4, r5, r6, r7⟩ := h
  have h1 : (e i).k ≠ 1 := by rcases h56 with h | h <;> omega
  have hne : G (e i).th ≠ none := by rw [hG]; simp
  have hom := r1.map.lt
  have P := r1.step hG hg go r7.size
  have hup : ∀ k, Up (Fo (e i).th) v1 u1 k → k ≠ om ∧ k < u1.heap.size ∧ w0.heap.size ≤ k ∧ ¬ Fc k := fun k hk => by
    have hB := r7.size
    rcases hk with hk | hk
    · have := r1.lt _ k hne hk
      exact ⟨this.2.2, Nat.lt_of_lt_of_le this.2.1 go.size, this.1, fun hc => r5 k hc (.inr ⟨_, hne, hk⟩)⟩
    · exact ⟨by omega, hk.2, by omega, fun hc => by have := (r6 k hc).2; omega⟩
  have D := P.del (e i).th (W' := u2) (hm.congr (fun x _ _ => by
    by_cases hx : x = (e i).th
    · subst hx
      rw [upd_same, upd_same]
    · rw [upd_other _ _ hx, upd_other _ _ hx, updG_other _ _ hx])) g2
  have hs1 := go.size
  have hs2 := g2.size
  refine ⟨_, _, ⟨D, fun th => ?_, firm _ _ _ _ r3 (fun k hk => ?_), r4, fun k hk hO => ?_, fun k hk => ⟨(r6 k hk).1, by have := (r6 k hk).2; omega⟩, (go.below r7 r7.size (fun k hF => (r1.lt _ k hne hF).1)).grown g2 (by have := r7.size; omega) (fun k e1 => by cases e1; exact r1.om_le), updG_same _ _ _, fun k hk => ?_⟩, updFo_same _ _ _, ?_⟩
  · by_cases hth : th = (e i).th
    · subst hth
      rw [updG_same, opn, if_pos rfl, if_neg h1, if_pos h56]
      rfl
    · rw [updG_other _ _ hth, updG_other _ _ hth, r2 th, opn, if_neg (fun e1 => hth e1.symm)]
      cases hb : opn e i th with
      | none => rfl
      | some b =>
        simp only [Option.map_some]
        rw [trAt_other e hb (fun e1 => hth e1.symm)]
  · have hl := (r6 k hk).2
    exact (g2.block k (Nat.lt_of_lt_of_le hl go.size) (by simp; exact fun e1 => r5 k hk (.inl e1))).trans (go.block k hl (fun hF => r5 k hk (.inr ⟨_, hne, hF⟩)))
  · rcases hO with hO | ⟨th, hn, hF⟩
    · exact r5 k hk (.inl hO)
    · by_cases hth : th = (e i).th
      · subst hth
        rw [updG_same] at hn
        exact hn rfl
      · rw [updG_other _ _ hth, updG_other _ _ hth] at hn
        rw [updFo_other _ _ hth] at hF
        exact r5 k hk (.inr ⟨th, hn, hF⟩)
  · rw [updFo_same] at hk
    obtain ⟨q1, q2, q3, q4⟩ := hup k hk
    refine ⟨q4, q3, by omega, fun hO => ?_⟩
    rcases hO with hO | ⟨th, hn, hF⟩
    · exact q1 hO
    · by_cases hth : th = (e i).th
      · subst hth
        rw [updG_same] at hn
        exact hn rfl
      · rw [updG_other _ _ hth, updG_other _ _ hth] at hn
        rw [updFo_other _ _ hth] at hF
        have h3 := r1.lt th k hn hF
        rcases hk with hk | hk
        · exact hth (r1.apart th _ k hn hne hF hk)
        · omega
  · rw [trAt_step e ho]
    exact hg.keep (fun k hk => g2.block k (hup k hk).2.1 (by simp; exact (hup k hk).1))

/-- The try has been told. -/
theorem mid_rel1 (h : Mid w0 om len e J i (e i).th u1 G Fo Fc xs) {b : Nat} (ho : opn e i (e i).th = some b) (h56 : (e i).k = 5 ∨ (e i).k = 6) (hi : i < len) {v : Value} {Fc' : Nat → Prop} (hJ : J (xs ++ [(trAt e b (i + 1), v)]) u2 Fc')
    (hF : ∀ k, Fc' k → Fc k ∨ Fo (e i).th k ∨ (u1.heap.size ≤ k ∧ k < u2.heap.size)) (go : Only Fc u1 u2) : Rel1 w0 om len e J (i + 1) u2 G Fo Fc' (xs ++ [(trAt e b (i + 1), v)]) := by
  obtain ⟨r1, r2, r3, r4, r5, r6, r7, r8, r9⟩ := h
  refine ⟨r1.frame (fun k hk => go.block k (OpnF.lt r1 hk).2 (fun hc => r5 k hc hk)) go.size, r2, hJ, ?_, fun k hk hO => ?_, fun k hk => ?_, go.below r7 r7.size (fun k hk => (r6 k hk).1)⟩
  · rw [List.map_append, r4, ended, ho]
    simp only [if_pos h56]
    rw [List.map_append]
    congr 1
    have he := trAt_ends e ho h56
    have := trAt_end e b (n := len) (by rw [he]; omega) (by omega : i + 1 ≤ len)
    simp [this]
  · rcases hF k hk with h | h | h
    · exact r5 k h hO
    · exact (r9 k h).2.2.2 hO
    · have := (OpnF.lt r1 hO).2
      omega
  · have hB := r7.size
    have hs := go.size
    rcases hF k hk with h | h | h
    · exact ⟨(r6 k h).1, Nat.lt_of_lt_of_le (r6 k h).2 go.size⟩
    · exact ⟨(r9 k h).2.1, Nat.lt_of_lt_of_le (r9 k h).2.2.1 go.size⟩
    · exact ⟨by omega, h.2⟩
end
end Go.Proofs.Ytkidkhjpijjphaa.hs

/- The second loop: the tries that haven't ended, in whatever order the map gives them. -/
namespace Go.Proofs.Ytkidkhjpijjphaa.hs
open Go Go.RowKit Go.Proofs.Ytkidkhjpijjphaa.base Go.Maps
set_option linter.unusedVariables false
set_option maxRecDepth 100000

theorem ranges_keep {w w' : World} {P : Program} {k : TypeId} {R : Value → Option (DataW Value × List MemPlace)} {b r n : Nat} {D : DataW Value} {left : Lit → Bool} {cnt : Nat} (h : w.ranges P k R b r n D left cnt) (hb : w'.heap[b]? = w.heap[b]?) (hr : w'.heap[r]? = w.heap[r]?) : w'.ranges P k R b r n D left cnt := by
  obtain ⟨es, clock, since, seen, c0, h1, h2, h3, h4, h5, h6⟩ := h
  exact ⟨es, clock, since, seen, c0, hb.trans h1, h2, h3, h4, hr.trans h5, h6⟩

/-- What D says of G. -/
def Says (D : DataW Value) (G : Int → Option (Nat × Tr)) : Prop := ∀ x kl, keyOf Try.prog 3 (.int .i64 x) = some kl → Maps.has D kl = ((G x).map ptrV).isSome ∧ ∀ v z, (G x).map ptrV = some v → D.atKey kl z = .held v

/-- The step of such a loop: a try comes, whichever. -/
theorem wpListIn_next_G {ops : Array Oper} {rest : List Oper} {o : Oper} {a : Act} {Q : Exit → Act → World → Prop} {w : World} {F : Fence} {nF : Nat} (hg : o.guard = none) (it : Operand) (hop : o.op = Op.next it false) (om r n : Nat) (D : DataW Value) (G : Int → Option (Nat × Tr)) (hD : Says D G) (left : Lit → Bool) (hl : ∀ kl, left kl = true → Maps.has D kl = true) (cnt : Nat)
    (hit : a.eval it = .pointer (some ⟨r, 0, none⟩)) (h : w.ranges Try.prog 3 heldR om r n D left cnt)
    (hDone : (∀ kl, left kl = false) → wpListIn F nF Try.prog ops Q rest (a.put o.dst (.tuple #[.bool false])) w)
    (hMore : ∀ (x : Int) (b : Nat) (t : Tr) (w' : World) (cnt' : Nat), G x = some (b, t) → left (.int .i64 x) = true → w'.ranges Try.prog 3 heldR om r n D (fun z => left z && !z.sameKey (.int .i64 x)) cnt' → cnt' < cnt →
      w.grownBy w' (some r) → w'.heap.size = w.heap.size → (Instr.entry (.pointer (some ⟨r, 0, none⟩))).run Try.prog w' = .ok (.tuple #[.int .i64 x, .pointer (some ⟨b, 0, none⟩)]) w' → wpListIn F nF Try.prog ops Q rest (a.put o.dst (.tuple #[.bool true, .int .i64 x, .pointer (some ⟨b, 0, none⟩)])) w') :
    wpListIn F nF Try.prog ops Q (o :: rest) a w :=
  wpListIn_next_ranges w hg it hop 3 kInt heldR (Value.int .i64) id (fun key kl hkey => by obtain ⟨x, rfl, _⟩ := Maps.keyOf_int_inv Try.underlying3 hkey; exact ⟨x, rfl⟩) (fun v _ _ => ⟨v, rfl⟩)
    om r n D left cnt hit h (fun _ h => hDone h) (fun x c kl y w' cnt' hkey hlk hv hat hrg hlt hgr hsz hen => by
      obtain ⟨x', ex, rfl, hwx⟩ := Maps.keyOf_int_inv Try.underlying3 hkey
      cases ex
      obtain ⟨h1, h2⟩ := hD x _ hkey
      rw [hl _ hlk] at h1
      cases hG : G x with
      | none => rw [hG] at h1; cases h1
      | some p =>
        obtain ⟨b, t⟩ := p
        rw [hG] at h2
        have h3 := h2 (ptrV (b, t)) (.held undef) rfl
        rw [hat] at h3
        unfold heldR at hv
        cases hv
        injection h3 with h4
        have h5 : c = .pointer (some ⟨b, 0, none⟩) := h4
        subst h5
        exact hMore x b t w' cnt' hG hlk hrg hlt hgr hsz hen)

def Rel2 (w0 : World) (om r len : Nat) (e : Evs) (J : List (Tr × Value) → World → (Nat → Prop) → Prop) (D : DataW Value) (G : Int → Option (Nat × Tr)) (Fo : Int → Nat → Prop) (wr : World) (left : Lit → Bool) (cnt : Nat) (xs : List (Tr × Value)) (Fc : Nat → Prop) (rest : List Nat) : Prop :=
  wr.ranges Try.prog 3 heldR om r len D left cnt ∧ (∀ kl, left kl = true → Maps.has D kl = true) ∧ (∀ th b t, G th = some (b, t) → left (.int .i64 th) = true → Gng wr (Fo th) b t (wrote t.ac) (readsF t.ac) len) ∧
  J xs wr Fc ∧ xs.map Prod.fst = (ended e len ++ rest).map (fun b => trAt e b len) ∧ rest.Nodup ∧ (∀ b, b ∈ rest ↔ ∃ th, opn e len th = some b ∧ left (.int .i64 th) = false) ∧
  (∀ k, Fc k → k ≠ om ∧ k ≠ r ∧ ∀ th, G th ≠ none → left (.int .i64 th) = true → ¬ Fo th k) ∧ (∀ k, Fc k → w0.heap.size ≤ k ∧ k < wr.heap.size) ∧ Below w0.heap.size w0 wr ∧
  (∀ th k, G th ≠ none → Fo th k → w0.heap.size ≤ k ∧ k < r ∧ k ≠ om) ∧ (∀ th th' k, G th ≠ none → G th' ≠ none → Fo th k → Fo th' k → th = th') ∧ om < r ∧ w0.heap.size ≤ r ∧ r < wr.heap.size ∧ (∀ th, (G th).map Prod.snd = (opn e len th).map (fun b => trAt e b len))

section
variable {w0 w1 w2 u3 wr w' : World} {om r len : Nat} {e : Evs} {J : List (Tr × Value) → World → (Nat → Prop) → Prop} {D : DataW Value} {G : Int → Option (Nat × Tr)} {Fo : Int → Nat → Prop} {Fc : Nat → Prop} {xs : List (Tr × Value)} {left : Lit → Bool} {cnt : Nat} {rest : List Nat}

theorem rel2_start (h : Rel1 w0 om len e J len wr G Fo Fc xs) (firm : Firm2 J) (hwf : ∀ th b, opn e len th = some b → (Lit.int .i64 th).wf = true) (hD : Says D G) (hrg : w'.ranges Try.prog 3 heldR om wr.heap.size len D (Maps.has D) (Maps.size D)) (hg : wr.grownBy w' none) (hs : w'.heap.size = wr.heap.size + 1) :
    Rel2 w0 om wr.heap.size len e J D G Fo w' (Maps.has D) (Maps.size D) xs Fc [] := by
  have h' := h.grown firm hg
  obtain ⟨r1, r2, r3, r4, r5, r6, r7⟩ := h
  obtain ⟨q1, q2, q3, q4, q5, q6, q7⟩ := h'
  refine ⟨hrg, fun _ h => h, fun th b t hG _ => q1.gng th b t hG, q3, by rw [List.append_nil]; exact r4, List.nodup_nil, fun b => ⟨fun h => by simp at h, ?_⟩, fun k hk => ⟨fun e1 => r5 k hk (.inl e1), by have := (r6 k hk).2; omega, fun th hn _ hF => r5 k hk (.inr ⟨th, hn, hF⟩)⟩, q6, q7, fun th k hn hF => r1.lt th k hn hF, r1.apart, r1.map.lt, r7.size, by omega, r2⟩
  rintro ⟨th, ho, hl⟩
  obtain ⟨bk, hG⟩ := G_of ⟨r1, r2, r3, r4, r5, r6, r7⟩ ho
  have := (hD th _ (keyInt (hwf th b ho))).1
  rw [hG] at this
  rw [hl] at this
  cases this

/-- One of them has come. -/
theorem rel2_came (h : Rel2 w0 om r len e J D G Fo w1 left cnt xs Fc rest) (firm : Firm2 J) (hg : w1.grownBy w2 (some r)) {x : Int} {b : Nat} {t : Tr} (hG : G x = some (b, t)) (hl : left (.int .i64 x) = true) :
    J xs w2 Fc ∧ Gng w2 (Fo x) b t (wrote t.ac) (readsF t.ac) len ∧ (∀ k, Fc k → ¬ Fo x k) ∧ (∀ k, Fo x k → k < w2.heap.size) ∧ (∃ p, opn e len x = some p ∧ t = trAt e p len) := by
  obtain ⟨h1, h2, h3, h4, h5, h6, h7, h8, h9, h10, h11, h12, h13, h14, h15, h16⟩ := h
  have hne : G x ≠ none := by rw [hG]; simp
  refine ⟨firm _ _ _ _ h4 (fun k hk => hg.block k (h9 k hk).2 (by simp; exact (h8 k hk).2.1)), (h3 x b t hG hl).keep (fun k hk => hg.block k (by have := (h11 x k hne hk).2.1; omega) (by simp; have := (h11 x k hne hk).2.1; omega)), fun k hk hF => (h8 k hk).2.2 x hne hl hF, fun k hF => by have := (h11 x k hne hF).2.1; have := hg.size; omega, ?_⟩
  have := h16 x
  rw [hG] at this
  cases ho : opn e len x with
  | none => rw [ho] at this; cases this
  | some p =>
    rw [ho] at this
    simp only [Option.map_some, Option.some.injEq] at this
    exact ⟨p, rfl, this⟩

theorem sameKey_int (a b : Int) : (Lit.int .i64 a).sameKey (.int .i64 b) = decide (a = b) := by simp [Lit.sameKey]

theorem rel2_step (h : Rel2 w0 om r len e J D G Fo w1 left cnt xs Fc rest) (firm : Firm2 J) {cnt' : Nat} {x : Int} (hrg : w2.ranges Try.prog 3 heldR om r len D (fun z => left z && !z.sameKey (.int .i64 x)) cnt') (hg : w1.grownBy w2 (some r)) {b p : Nat} {t : Tr} (hG : G x = some (b, t)) (hl : left (.int .i64 x) = true)
    (ho : opn e len x = some p) (ht : t = trAt e p len) {v : Value} {Fc' : Nat → Prop} (hJ : J (xs ++ [(t, v)]) u3 Fc') (hF : ∀ k, Fc' k → Fc k ∨ Fo x k ∨ (w2.heap.size ≤ k ∧ k < u3.heap.size)) (go : Only Fc w2 u3) :
    Rel2 w0 om r len e J D G Fo u3 (fun z => left z && !z.sameKey (.int .i64 x)) cnt' (xs ++ [(t, v)]) Fc' (rest ++ [p]) := by
  obtain ⟨h1, h2, h3, h4, h5, h6, h7, h8, h9, h10, h11, h12, h13, h14, h15, h16⟩ := h
  have hne : G x ≠ none := by rw [hG]; simp
  have hs := hg.size
  have hs2 := go.size
  have hleft : ∀ th, (left (.int .i64 th) && !(Lit.int .i64 th).sameKey (.int .i64 x)) = true → left (.int .i64 th) = true ∧ th ≠ x := fun th h => by
    rw [sameKey_int] at h
    simpa using h
  refine ⟨ranges_keep hrg (go.block om (by omega) (fun hc => (h8 om hc).1 rfl)) (go.block r (by omega) (fun hc => (h8 r hc).2.1 rfl)), fun kl hk => h2 kl (by simp at hk; exact hk.1), fun th b' t' hG' hl' => ?_, hJ, ?_, ?_, fun q => ?_, fun k hk => ?_, fun k hk => ?_, (go.below (h10.grown hg h10.size (fun k e1 => by cases e1; exact h14)) (by have := h10.size; omega) (fun k hk => (h9 k hk).1)), h11, h12, h13, h14, by omega, h16⟩
  · obtain ⟨q1, q2⟩ := hleft th hl'
    have hn' : G th ≠ none := by rw [hG']; simp
    exact (h3 th b' t' hG' q1).keep (fun k hk => by
      have h17 := h11 th k hn' hk
      exact (go.block k (by omega) (fun hc => (h8 k hc).2.2 th hn' q1 hk)).trans (hg.block k (by omega) (by simp; omega)))
  · rw [List.map_append, h5, ← List.append_assoc, List.map_append (l₁ := ended e len ++ rest)]
    simp [ht]
  · refine List.nodup_append.2 ⟨h6, by simp, fun a ha c hc hac => ?_⟩
    have : c = p := by simpa using hc
    subst this
    subst hac
    obtain ⟨th, h17, h18⟩ := (h7 a).1 ha
    have h19 := (opn_spec e _ _ _ h17).2.2.1
    have h20 := (opn_spec e _ _ _ ho).2.2.1
    rw [← h19, h20, hl] at h18
    cases h18
  · rw [List.mem_append, h7]
    constructor
    · rintro (⟨th, h17, h18⟩ | h17)
      · exact ⟨th, h17, by simp [h18]⟩
      · have : q = p := by simpa using h17
        subst this
        exact ⟨x, ho, by simp [sameKey_int]⟩
    · rintro ⟨th, h17, h18⟩
      simp only [sameKey_int] at h18
      by_cases hx : th = x
      · subst hx
        rw [ho] at h17
        cases h17
        exact .inr (by simp)
      · left
        refine ⟨th, h17, ?_⟩
        simpa [hx] using h18
  · rcases hF k hk with h17 | h17 | h17
    · exact ⟨(h8 k h17).1, (h8 k h17).2.1, fun th hn hl' => (h8 k h17).2.2 th hn (hleft th hl').1⟩
    · have h18 := h11 x k hne h17
      exact ⟨h18.2.2, by omega, fun th hn hl' hF' => (hleft th hl').2 (h12 th x k hn hne hF' h17)⟩
    · exact ⟨by omega, by omega, fun th hn _ hF' => by have := h11 th k hn hF'; omega⟩
  · have hB := h10.size
    rcases hF k hk with h17 | h17 | h17
    · exact ⟨(h9 k h17).1, by have := (h9 k h17).2; omega⟩
    · have h18 := h11 x k hne h17
      exact ⟨h18.1, by omega⟩
    · exact ⟨by omega, h17.2⟩

theorem rel2_done (h : Rel2 w0 om r len e J D G Fo w1 left cnt xs Fc rest) (hl : ∀ kl, left kl = false) : rest.Nodup ∧ (∀ b, b ∈ rest ↔ ∃ th, opn e len th = some b) ∧ xs.map Prod.fst = (ended e len ++ rest).map (fun b => trAt e b len) := by
  obtain ⟨h1, h2, h3, h4, h5, h6, h7, h8⟩ := h
  refine ⟨h6, fun b => ?_, h5⟩
  rw [h7]
  exact ⟨fun ⟨th, h, _⟩ => ⟨th, h⟩, fun ⟨th, h⟩ => ⟨th, h, hl _⟩⟩
end
end Go.Proofs.Ytkidkhjpijjphaa.hs

/- The document's own answers of chapter 17, in plain numbers, and that they are those of XHm. Of no program, and of no memory. -/
namespace Go.Proofs.Ytkidkhjpijjphaa.base
open Go

/-- The place of a thread's last EvBegin ahead of a place; -1: none. -/
def lastI (e : Evs) : Nat → Int → Int
  | 0, _ => -1
  | i + 1, th => if (e i).k = 1 ∧ (e i).th = th then (i : Int) else lastI e i th
/-- No end of the thread of place b's event stands between b and a place. -/
def openB (e : Evs) (b : Nat) : Nat → Bool
  | 0 => true
  | i + 1 => openB e b i && !(decide (b < i) && (decide ((e i).th = (e b).th) && (decide ((e i).k = 5) || decide ((e i).k = 6))))

theorem lastI_lt (e : Evs) : ∀ i th, -1 ≤ lastI e i th ∧ lastI e i th < i
  | 0, th => ⟨by simp [lastI], by simp [lastI]⟩
  | i + 1, th => by
    have := lastI_lt e i th
    unfold lastI
    split <;> omega
theorem openB_self (e : Evs) (b : Nat) : ∀ i, i ≤ b + 1 → openB e b i = true
  | 0, _ => rfl
  | i + 1, h => by
    rw [openB, openB_self e b i (by omega)]
    simp
    omega

theorem opn_ref (e : Evs) : ∀ i th, opn e i th = if 0 ≤ lastI e i th ∧ openB e (lastI e i th).toNat i = true then some (lastI e i th).toNat else none
  | 0, th => by simp [opn, lastI]
  | i + 1, th => by
    have ih := opn_ref e i th
    have hl := lastI_lt e i th
    have hspec : 0 ≤ lastI e i th → (e (lastI e i th).toNat).th = th := by
      clear ih hl
      induction i with
      | zero => simp [lastI]
      | succ i ih =>
        unfold lastI
        split
        · next h => intro _; simpa using h.2
        · exact ih
    have hself := openB_self e i (i + 1) (Nat.le_refl _)
    unfold opn
    by_cases hth : (e i).th = th
    · rw [if_pos hth]
      by_cases h1 : (e i).k = 1
      · have hl1 : lastI e (i + 1) th = (i : Int) := by rw [lastI, if_pos ⟨h1, hth⟩]
        rw [hl1, if_pos h1, Int.toNat_natCast, if_pos ⟨by omega, hself⟩]
      · have hl1 : lastI e (i + 1) th = lastI e i th := by rw [lastI, if_neg (fun h => h1 h.1)]
        rw [hl1, if_neg h1]
        by_cases h56 : (e i).k = 5 ∨ (e i).k = 6
        · rw [if_pos h56]
          by_cases h0 : 0 ≤ lastI e i th
          · rw [if_neg]
            rintro ⟨_, h2⟩
            rw [openB] at h2
            have h3 := hspec h0
            have h4 : (lastI e i th).toNat < i := by omega
            rcases h56 with h56 | h56 <;> simp [h4, h3, hth, h56] at h2
          · rw [if_neg (fun h => h0 h.1)]
        · rw [if_neg h56, ih]
          have : openB e (lastI e i th).toNat (i + 1) = openB e (lastI e i th).toNat i := by
            rw [openB]
            have h5 : ¬ (e i).k = 5 := fun h => h56 (.inl h)
            have h6 : ¬ (e i).k = 6 := fun h => h56 (.inr h)
            simp [h5, h6]
          rw [this]
    · have hl1 : lastI e (i + 1) th = lastI e i th := by rw [lastI, if_neg (fun h => hth h.2)]
      rw [hl1, if_neg hth, ih]
      by_cases h0 : 0 ≤ lastI e i th
      · have : openB e (lastI e i th).toNat (i + 1) = openB e (lastI e i th).toNat i := by
          rw [openB, hspec h0]
          simp [hth]
        rw [this]
      · rw [if_neg (fun h => h0 h.1), if_neg (fun h => h0 h.1)]

/-- Is an event of another one's attempt? -/
def ownE (b e : Ev) : Bool := decide (b.th = e.th) && decide (b.tx = e.tx) && decide (b.at_ = e.at_)

/-- The document's try of an EvBegin, ahead of a place. -/
def docAt (e : Evs) (b : Nat) : Nat → Tr
  | 0 => init b (e b)
  | i + 1 => if b < i ∧ ownE (e b) (e i) = true ∧ (docAt e b i).en < 0 then stepT (docAt e b i) i (e i) else docAt e b i

/-- In a right trace a try that has no end goes on. -/
theorem opn_of (e : Evs) {n b : Nat} (hr : right e n = true) (hb : b < n) (hk : (e b).k = 1) (hen : (trAt e b n).en < 0) : opn e n (e b).th = some b := by
  rcases begun_all e n hr b hb hk with h | h
  · have := ended_spec e n b h
    omega
  · exact h

theorem may_own (e : Evs) {i b : Nat} (h : may e i = true) (ho : opn e i (e i).th = some b) : ownE (e b) (e i) = true ∧ 2 ≤ (e i).k ∧ (e i).k ≤ 6 := by
  unfold may at h
  rw [ho] at h
  have := (opn_spec e _ _ _ ho).2.2.1
  simp at h
  unfold ownE
  simp [this, h.1.2, h.2]
  omega

theorem docAt_eq (e : Evs) (b : Nat) (hk : (e b).k = 1) : ∀ n, right e n = true → docAt e b n = trAt e b n
  | 0, _ => rfl
  | n + 1, hr => by
    have hr0 := hr
    rw [right, Bool.and_eq_true] at hr
    have ih := docAt_eq e b hk n hr.1
    rw [docAt, trAt, ih]
    by_cases hb : b < n
    · by_cases hen : (trAt e b n).en < 0
      · have ho := opn_of e hr.1 hb hk hen
        by_cases hth : (e n).th = (e b).th
        · rw [← hth] at ho
          rw [if_pos ⟨hb, (may_own e hr.2 ho).1, hen⟩, if_pos ⟨hb, hth, hen⟩]
        · rw [if_neg, if_neg (fun h => hth h.2.1)]
          rintro ⟨_, h, _⟩
          unfold ownE at h
          simp at h
          exact hth h.1.1.symm
      · rw [if_neg (fun h => hen h.2.2), if_neg (fun h => hen h.2.2)]
    · rw [if_neg (fun h => hb h.1), if_neg (fun h => hb h.1)]

theorem co_en (e : Evs) (b : Nat) : ∀ n, (trAt e b n).co = true → 0 ≤ (trAt e b n).en
  | 0, h => by simp [trAt, init] at h
  | n + 1, h => by
    rw [trAt] at h ⊢
    split
    · next hc =>
      rw [if_pos hc] at h
      rw [stepT_en]
      split
      · omega
      · next h56 =>
        have : (stepT (trAt e b n) n (e n)).co = (trAt e b n).co := by
          unfold stepT
          repeat' split
          all_goals first | rfl | (exfalso; apply h56; simp [*])
        rw [this] at h
        have := co_en e b n h
        omega
    · next hc =>
      rw [if_neg hc] at h
      exact co_en e b n h

/-- Where a try ended: an end of its thread, at which it was the one that went on. -/
theorem en_at (e : Evs) {b : Nat} (hk : (e b).k = 1) : ∀ n, right e n = true → b < n → 0 ≤ (trAt e b n).en → ∃ i, i < n ∧ (trAt e b n).en = (i : Int) ∧ opn e i (e i).th = some b ∧ ((e i).k = 5 ∨ (e i).k = 6) ∧ ((trAt e b n).co = true ↔ (e i).k = 5)
  | 0, _, h, _ => by omega
  | n + 1, hr, hb, h => by
    rw [right, Bool.and_eq_true] at hr
    by_cases hbn : b = n
    · subst hbn
      rw [trAt_init _ _ _ (Nat.le_refl _)] at h
      simp [init] at h
    · by_cases hen : (trAt e b n).en < 0
      · have ho := opn_of e hr.1 (by omega) hk hen
        rw [trAt] at h ⊢
        by_cases hth : (e n).th = (e b).th
        · rw [if_pos ⟨by omega, hth, hen⟩] at h ⊢
          rw [← hth] at ho
          by_cases h56 : (e n).k = 5 ∨ (e n).k = 6
          · refine ⟨n, by omega, by rw [stepT_en, if_pos h56], ho, h56, ?_⟩
            have hco : (trAt e b n).co ≠ true := fun h2 => by have := co_en e b n h2; omega
            rcases h56 with h5 | h6
            · simp [stepT, h5]
            · simp [stepT, h6, hco]
          · rw [stepT_en, if_neg h56] at h
            omega
        · rw [if_neg (fun h => hth h.2.1)] at h
          omega
      · have e1 : trAt e b (n + 1) = trAt e b n := by rw [trAt, if_neg (fun h => hen h.2.2)]
        rw [e1] at h ⊢
        obtain ⟨i, h1, h2⟩ := en_at e hk n hr.1 (by omega) h
        exact ⟨i, by omega, h2⟩

/-- The document's order: by the ends. -/
def commsD (e : Evs) (n : Nat) : List Tr := (List.range n).flatMap fun (i : Nat) => (tries e n).filter fun t => t.co && decide (t.en = (i : Int))

theorem tries_mem (e : Evs) (n : Nat) (t : Tr) : t ∈ tries e n ↔ ∃ b, b < n ∧ (e b).k = 1 ∧ trAt e b n = t := by
  unfold tries
  rw [List.mem_map]
  constructor
  · rintro ⟨b, h1, h2⟩
    obtain ⟨h3, h4⟩ := (begins_mem e n b).1 h1
    exact ⟨b, h3, h4, h2⟩
  · rintro ⟨b, h3, h4, h2⟩
    exact ⟨b, (begins_mem e n b).2 ⟨h3, h4⟩, h2⟩
theorem tries_nodup (e : Evs) (n : Nat) : (tries e n).Nodup := (tries_sorted e n).imp fun h h2 => by rw [h2] at h; omega

/-- One try an end. -/
theorem en_one (e : Evs) {n : Nat} (hr : right e n = true) {t u : Tr} (ht : t ∈ tries e n) (hu : u ∈ tries e n) (h0 : 0 ≤ t.en) (h : t.en = u.en) : t = u := by
  obtain ⟨b, h1, h2, rfl⟩ := (tries_mem e n t).1 ht
  obtain ⟨c, h3, h4, rfl⟩ := (tries_mem e n u).1 hu
  obtain ⟨i, _, hi, ho, _⟩ := en_at e h2 n hr h1 h0
  obtain ⟨j, _, hj, ho2, _⟩ := en_at e h4 n hr h3 (by omega)
  have : i = j := by omega
  subst this
  rw [ho] at ho2
  cases ho2
  rfl

theorem commsD_sorted (e : Evs) {n : Nat} (hr : right e n = true) : (commsD e n).Pairwise (fun x y => x.en < y.en) := by
  unfold commsD
  rw [List.pairwise_flatMap]
  refine ⟨fun i _ => ?_, ?_⟩
  · have hnd := (tries_nodup e n).filter (fun t => t.co && decide (t.en = (i : Int)))
    refine (List.pairwise_iff_getElem.2 fun a b ha hb hab => ?_)
    have h1 := List.getElem_mem ha
    have h2 := List.getElem_mem hb
    rw [List.mem_filter] at h1 h2
    simp at h1 h2
    have := en_one e hr h1.1 h2.1 (by omega) (by omega)
    exact absurd this (List.pairwise_iff_getElem.1 hnd a b ha hb hab)
  · refine List.pairwise_lt_range.imp ?_
    intro i j hij x hx y hy
    rw [List.mem_filter] at hx hy
    simp at hx hy
    omega

theorem commsD_perm (e : Evs) {n : Nat} (hr : right e n = true) : (commsD e n).Perm ((tries e n).filter fun t => t.co) := by
  refine (List.perm_ext_iff_of_nodup ((commsD_sorted e hr).imp fun h h2 => by rw [h2] at h; omega) ((tries_nodup e n).filter _)).2 fun t => ?_
  unfold commsD
  rw [List.mem_flatMap]
  constructor
  · rintro ⟨i, _, h⟩
    rw [List.mem_filter] at h ⊢
    simp at h
    exact ⟨h.1, h.2.1⟩
  · intro h
    rw [List.mem_filter] at h
    obtain ⟨ht, hc⟩ := h
    have hc' : t.co = true := hc
    obtain ⟨b, h1, h2, rfl⟩ := (tries_mem e n t).1 ht
    obtain ⟨i, h3, h4, _⟩ := en_at e h2 n hr h1 (co_en e b n hc')
    exact ⟨i, by simpa using h3, List.mem_filter.2 ⟨ht, by simp [hc', h4]⟩⟩

/-- As many tries committed as there are EvCommit. -/
theorem comms_before (e : Evs) {n : Nat} (hr : right e n = true) : ((tries e n).filter fun t => t.co).length = before e n := by
  rw [← (commsD_perm e hr).length_eq]
  have key : ∀ m, m ≤ n → ((List.range m).flatMap fun (i : Nat) => (tries e n).filter fun t => t.co && decide (t.en = (i : Int))).length = before e m := by
    intro m
    induction m with
    | zero => intro _; rfl
    | succ m ih =>
      intro hm
      rw [List.range_succ, List.flatMap_append, List.length_append, ih (by omega), before]
      congr 1
      simp only [List.flatMap_cons, List.flatMap_nil, List.append_nil]
      have hmay := right_may e hr (show m < n by omega)
      by_cases h5 : (e m).k = 5
      · rw [if_pos h5]
        obtain ⟨b, ho⟩ : ∃ b, opn e m (e m).th = some b := by
          cases ho : opn e m (e m).th with
          | some b => exact ⟨b, rfl⟩
          | none =>
            unfold may at hmay
            rw [ho] at hmay
            simp [h5] at hmay
        obtain ⟨b1, b2, b3, b4⟩ := opn_spec e _ _ _ ho
        have e1 := trAt_ends e ho (.inl h5)
        have e2 : trAt e b n = trAt e b (m + 1) := trAt_end e b (by omega) (by omega)
        have hmem : trAt e b n ∈ (tries e n).filter fun t => t.co && decide (t.en = (m : Int)) := by
          rw [List.mem_filter]
          refine ⟨(tries_mem e n _).2 ⟨b, by omega, b2, rfl⟩, ?_⟩
          rw [e2, e1, trAt_step e ho]
          simp [stepT, h5]
        have hone : ∀ t ∈ (tries e n).filter (fun t => t.co && decide (t.en = (m : Int))), t = trAt e b n := by
          intro t ht
          rw [List.mem_filter] at ht hmem
          simp at ht hmem
          exact en_one e hr ht.1 hmem.1 (by omega) (by omega)
        have hnd := (tries_nodup e n).filter (fun t => t.co && decide (t.en = (m : Int)))
        revert hmem hone hnd
        generalize (tries e n).filter (fun t => t.co && decide (t.en = (m : Int))) = L
        intro hmem hone hnd
        match L, hmem, hone, hnd with
        | [a], _, _, _ => rfl
        | a :: b :: L, _, hone, hnd =>
          have h1 := hone a (by simp)
          have h2 := hone b (by simp)
          rw [h1, h2] at hnd
          simp at hnd
      · rw [if_neg h5, List.length_eq_zero_iff, List.filter_eq_nil_iff]
        intro t ht
        obtain ⟨b, h1, h2, rfl⟩ := (tries_mem e n t).1 ht
        simp
        intro hc hen
        obtain ⟨i, h3, h4, _, _, h7⟩ := en_at e h2 n hr h1 (co_en e b n hc)
        have : i = m := by omega
        subst this
        exact h5 (h7.1 hc)
  exact key n (Nat.le_refl n)
end Go.Proofs.Ytkidkhjpijjphaa.base
