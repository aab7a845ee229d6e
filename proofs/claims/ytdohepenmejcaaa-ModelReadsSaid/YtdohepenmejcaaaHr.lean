/- Whether a trace is right: package hist's own (may, enter, Right). -/
import Derived.Test.YtdohepenmejcaaaProg
import Derived.Test.YtdohepenmejcaaaOpen
import Derived.Test.YtdohepenmejcaaaGrow
import Derived.Test.YtdohepenmejcaaaMapG
import Derived.Test.YtdohepenmejcaaaHm
import Derived.DeepKeys4
import Derived.WideKeyPair
import Derived.Deep.RegionHeld3
import Derived.Deep.QuietTactic
namespace Go.Proofs.Ytdohepenmejcaaa.hs
open Go Go.RowKit Go.Proofs.Ytdohepenmejcaaa.base Go.Maps
set_option linter.unusedVariables false
set_option maxRecDepth 100000

/-- Its numbers are ints. -/
structure Ev.Wf (e : Ev) : Prop where
  k : (Lit.int .i64 e.k).wf = true
  th : (Lit.int .i64 e.th).wf = true
  tx : (Lit.int .i64 e.tx).wf = true
  at_ : (Lit.int .i64 e.at_).wf = true
  ob : (Lit.int .i64 e.ob).wf = true
  va : (Lit.int .i64 e.va).wf = true
  re : (Lit.int .i64 e.re).wf = true

/-- An event's cells. -/
def evc (e : Ev) : List Value := [.int .i64 e.k, .int .i64 e.th, .int .i64 e.tx, .int .i64 e.at_, .int .i64 e.ob, .int .i64 e.va, .int .i64 e.re]
def Ev.get (e : Ev) : Nat → Int
  | 0 => e.k
  | 1 => e.th
  | 2 => e.tx
  | 3 => e.at_
  | 4 => e.ob
  | 5 => e.va
  | _ => e.re

/-- The first n events of e lie there. -/
def IsEvs (w : World) (a : Option Addr) (n : Nat) (e : Evs) : Prop :=
  n = 0 ∨ ∃ b off, a = some ⟨b, off, none⟩ ∧ b < w.heap.size ∧ ∀ i, i < n → (∀ j, j < 7 → w.cell? ⟨b, off + (i * 7 + j), none⟩ = some (.int .i64 (Ev.get (e i) j))) ∧ Ev.Wf (e i)

theorem isEvs_of {w : World} {a : Option Addr} {len cap : Nat} {z : Nat → Nat → Int} (h : IsInts 7 w a len cap z) : IsEvs w a len (fun i => ⟨z i 0, z i 1, z i 2, z i 3, z i 4, z i 5, z i 6⟩) := by
  obtain ⟨_, _, h | ⟨b, off, rfl, hb, hc⟩⟩ := h
  · exact .inl h
  · refine .inr ⟨b, off, rfl, hb, fun i hi => ⟨fun j hj => ?_, ⟨(hc i 0 hi (by omega)).2, (hc i 1 hi (by omega)).2, (hc i 2 hi (by omega)).2, (hc i 3 hi (by omega)).2, (hc i 4 hi (by omega)).2, (hc i 5 hi (by omega)).2, (hc i 6 hi (by omega)).2⟩⟩⟩
    have h := (hc i j hi hj).1
    match j, hj with
    | 0, _ => exact h
    | 1, _ => exact h
    | 2, _ => exact h
    | 3, _ => exact h
    | 4, _ => exact h
    | 5, _ => exact h
    | 6, _ => exact h

section
variable {w w' : World} {a : Option Addr} {n : Nat} {e : Evs}
theorem IsEvs.below (h : IsEvs w a n e) {B : Nat} (g : Below B w w') (hb : w.heap.size ≤ B) : IsEvs w' a n e := by
  rcases h with h | ⟨b, off, rfl, hlt, hc⟩
  · exact .inl h
  · exact .inr ⟨b, off, rfl, Nat.lt_of_lt_of_le hlt g.size, fun i hi => ⟨fun j hj => (g.cell (p := ⟨b, off + (i * 7 + j), none⟩) (Nat.lt_of_lt_of_le hlt hb)).trans ((hc i hi).1 j hj), (hc i hi).2⟩⟩
theorem IsEvs.less (h : IsEvs w a n e) {m : Nat} (hm : m ≤ n) : IsEvs w a m e := by
  rcases h with h | ⟨b, off, rfl, hlt, hc⟩
  · exact .inl (by omega)
  · exact .inr ⟨b, off, rfl, hlt, fun i hi => hc i (by omega)⟩
theorem IsEvs.grown (h : IsEvs w a n e) (g : w.grownBy w' none) : IsEvs w' a n e := h.below (gb_below g) (Nat.le_refl _)
theorem IsEvs.at7 (h : IsEvs w a n e) {i : Nat} (hi : i < n) : ∃ b off, a = some ⟨b, off, none⟩ ∧ b < w.heap.size ∧ w.cell? ⟨b, off + i * 7, none⟩ = some (.int .i64 (e i).k) ∧ w.cell? ⟨b, off + i * 7 + 1, none⟩ = some (.int .i64 (e i).th) ∧ w.cell? ⟨b, off + i * 7 + 2, none⟩ = some (.int .i64 (e i).tx) ∧ w.cell? ⟨b, off + i * 7 + 3, none⟩ = some (.int .i64 (e i).at_) ∧ w.cell? ⟨b, off + i * 7 + 4, none⟩ = some (.int .i64 (e i).ob) ∧ w.cell? ⟨b, off + i * 7 + 5, none⟩ = some (.int .i64 (e i).va) ∧ w.cell? ⟨b, off + i * 7 + 6, none⟩ = some (.int .i64 (e i).re) ∧ Ev.Wf (e i) := by
  rcases h with h | ⟨b, off, rfl, hlt, hc⟩
  · omega
  · obtain ⟨h1, h2⟩ := hc i hi
    exact ⟨b, off, rfl, hlt, h1 0 (by omega), h1 1 (by omega), h1 2 (by omega), h1 3 (by omega), h1 4 (by omega), h1 5 (by omega), h1 6 (by omega), h2⟩
end

theorem laidOut17 : laidOutB Try.prog = true := by kernel_rfl
theorem rowTxn : (105 : TypeId) < Try.prog.types.size := of_decide_eq_true (by kernel_rfl)
theorem kTxn : Keyed Try.prog 105 := Keyed.of_law (deep_law_laid laidOut17 (m := 2) (by omega) rowTxn (by kernel_rfl) (by rw [Try.underlying105]))
theorem kInt : Keyed Try.prog 3 := int_keyed Try.underlying3
theorem keyInt {x : Int} (h : (Lit.int .i64 x).wf = true) : keyOf Try.prog 3 (.int .i64 x) = some (.int .i64 x) := keyOf_int_mk Try.underlying3 h
theorem keyTxn {x : Int × Int} (h1 : (Lit.int .i64 x.1).wf = true) (h2 : (Lit.int .i64 x.2).wf = true) : ∃ kl, keyOf Try.prog 105 (two x) = some kl := by
  have hkt : Try.prog.keyType 105 = true := by kernel_rfl
  have hc : Try.prog.cellsOf 105 = 2 := by kernel_rfl
  have hci : Try.prog.cellsOf 3 = 1 := by kernel_rfl
  have hs : Try.prog.types.size = (Try.prog.types.size - 1) + 1 := by kernel_rfl
  refine ⟨.string (keyBytes [.int .i64 x.1, .int .i64 x.2]), ?_⟩
  unfold keyOf two
  simp only [Try.underlying105]
  rw [if_pos (by simp [hkt, Value.formed, Try.underlying105, hc]), hs]
  unfold Program.keyLits
  simp only [Try.underlying105, Value.cells]
  have hk : ∀ (m : Nat) (v : Int), (Lit.int .i64 v).wf = true → Try.prog.keyLits (m + 1) 3 [.int .i64 v] = some [.int .i64 v] := fun m v h => by
    unfold Program.keyLits
    simp only [Try.underlying3]
    rw [if_pos ⟨trivial, h⟩]
  obtain ⟨m, hm⟩ : ∃ m, Try.prog.types.size - 1 + 1 = m + 1 + 1 := ⟨Try.prog.types.size - 2, by kernel_rfl⟩
  rw [if_pos (by rw [hc]; exact ⟨rfl, by kernel_rfl⟩)]
  simp only [List.mapM_cons, List.mapM_nil, hci]
  have e1 : Try.prog.types.size - 1 = m + 1 := by omega
  rw [e1]
  simp [hk, h1, h2]

theorem zeroEv (w : World) : (zeroValue 58).run Try.prog w = .ok (.agg #[.int .i64 0, .int .i64 0, .int .i64 0, .int .i64 0, .int .i64 0, .int .i64 0, .int .i64 0]) w := by kernel_rfl
theorem zeroInt (w : World) : (zeroValue 3).run Try.prog w = .ok (.int .i64 0) w := by kernel_rfl

/-- May this one come, where o began last and goes on, and c is what its transaction has counted? -/
def mayB (o : Option Ev) (c : Int) (e : Ev) : Bool :=
  match o with
  | none => (e.k == 1 && e.at_ == IntKind.i64.wrap (c + 1)) || e.k == 7
  | some b => decide (2 ≤ e.k) && decide (e.k ≤ 6) && e.tx == b.tx && e.at_ == b.at_

/-- What the book's first map has. -/
def opnV (o : Option Ev) : Option Value := o.map fun b => .agg ⟨evc b⟩

end Go.Proofs.Ytdohepenmejcaaa.hs
