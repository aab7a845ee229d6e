/- A map keyed by int, told by a function: plain facts on memory, of no program. The elements are held as they are, whatever they lead to. -/
import Derived.Maps.OwnSet
import Derived.Test.YtdohepenmejcaaaBase
namespace Go.Proofs.Ytdohepenmejcaaa.base
open Go Go.RowKit Go.Maps

/-- An element reads as itself. -/
def heldR (v : Value) : Option (DataW Value × List MemPlace) := some (.held v, [])

/-- Block b is a map of n entries from numbers (keys of type k, of kind int) to what f tells. -/
def MapF (P : Program) (k : TypeId) (w : World) (b n : Nat) (f : Int → Option Value) : Prop :=
  ∃ D, w.ownsMap P k heldR b n D ∧ Maps.size D = n ∧ ∀ j, Maps.has D (.int .i64 j) = (f j).isSome ∧ ∀ v z, f j = some v → D.atKey (.int .i64 j) z = .held v

section
variable {P : Program} {k e t : TypeId} {w w' : World} {b n : Nat} {f : Int → Option Value}

theorem MapF.lt (h : MapF P k w b n f) : b < w.heap.size := by
  obtain ⟨D, h, _⟩ := h
  exact h.lt
theorem MapF.keep (h : MapF P k w b n f) (hb : w'.heap[b]? = w.heap[b]?) : MapF P k w' b n f := by
  obtain ⟨D, ⟨es, c, h1, h2⟩, h3⟩ := h
  exact ⟨D, ⟨es, c, hb.trans h1, h2⟩, h3⟩
theorem MapF.not_cells (h : MapF P k w b n f) {cs : Array Value} {ty : TypeId} {fr : Nat × Nat} : w.heap[b]? ≠ some (.cells cs ty fr) := by
  obtain ⟨D, ⟨es, c, h1, h2⟩, h3⟩ := h
  rw [h1]
  simp
theorem MapF.made (w : World) (P : Program) (k : TypeId) : MapF P k (w.alloc (.map #[] 0)) w.heap.size 0 (fun _ => none) :=
  ⟨_, World.ownsMap_made w P k heldR, rfl, fun j => ⟨rfl, by simp⟩⟩

/-- 'v, ok := m[j]', j there. -/
theorem MapF.hit (h : MapF P k w b n f) (hk : P.underlying k = some (.int .i64)) (ht : P.underlying t = some (.map k e)) {z : Value} (hz : (zeroValue e).run P w = .ok z w) {j : Int} (hj : (Lit.int .i64 j).wf = true) {v : Value} (hf : f j = some v) :
    (Instr.lookup t (.map (some b)) (.int .i64 j) true).run P w = .ok (.tuple #[v, .bool true]) w := by
  obtain ⟨D, h, _, hD⟩ := h
  obtain ⟨u, ps, hr, hu⟩ := h.look_ok (int_keyed hk) ht hz (zd := .held z) rfl (keyOf_int_mk hk hj)
  rw [hr, (hD j).1, hf]
  rw [(hD j).2 v _ hf] at hu
  simp only [heldR, Option.some.injEq, Prod.mk.injEq, DataW.held.injEq] at hu
  rw [hu.1]
  rfl

/-- .. j not there. -/
theorem MapF.miss (h : MapF P k w b n f) (hk : P.underlying k = some (.int .i64)) (ht : P.underlying t = some (.map k e)) {z : Value} (hz : (zeroValue e).run P w = .ok z w) {j : Int} (hj : (Lit.int .i64 j).wf = true) (hf : f j = none) :
    (Instr.lookup t (.map (some b)) (.int .i64 j) true).run P w = .ok (.tuple #[z, .bool false]) w := by
  obtain ⟨D, h, _, hD⟩ := h
  obtain ⟨u, ps, hr, hu⟩ := h.look_ok (int_keyed hk) ht hz (zd := .held z) rfl (keyOf_int_mk hk hj)
  have h0 : Maps.has D (.int .i64 j) = false := by rw [(hD j).1, hf]; rfl
  rw [hr, h0]
  rw [atKey_of_not_has h0] at hu
  simp only [heldR, Option.some.injEq, Prod.mk.injEq, DataW.held.injEq] at hu
  rw [hu.1]

/-- 'm[j]' (without 'ok'). -/
theorem MapF.get (h : MapF P k w b n f) (hk : P.underlying k = some (.int .i64)) (ht : P.underlying t = some (.map k e)) {z : Value} (hz : (zeroValue e).run P w = .ok z w) {j : Int} (hj : (Lit.int .i64 j).wf = true) :
    (Instr.lookup t (.map (some b)) (.int .i64 j) false).run P w = .ok ((f j).getD z) w := by
  obtain ⟨D, h, _, hD⟩ := h
  obtain ⟨u, ps, hr, hu⟩ := h.lookup (int_keyed hk) ht hz (zd := .held z) rfl (keyOf_int_mk hk hj)
  rw [hr]
  cases hf : f j with
  | none =>
    have h0 : Maps.has D (.int .i64 j) = false := by rw [(hD j).1, hf]; rfl
    rw [atKey_of_not_has h0] at hu
    simp only [heldR, Option.some.injEq, Prod.mk.injEq, DataW.held.injEq] at hu
    rw [hu.1]
    rfl
  | some v =>
    rw [(hD j).2 v _ hf] at hu
    simp only [heldR, Option.some.injEq, Prod.mk.injEq, DataW.held.injEq] at hu
    rw [hu.1]
    rfl

/-- 'm[j] = v', whether j is there or not. -/
theorem MapF.set (h : MapF P k w b n f) (hk : P.underlying k = some (.int .i64)) (ht : P.underlying t = some (.map k e)) (hn : n < maxLen) {j : Int} (hj : (Lit.int .i64 j).wf = true) (v : Value) :
    ∃ w' n', n' ≤ n + 1 ∧ (Instr.mapUpdate t (.map (some b)) (.int .i64 j) v).run P w = .ok () w' ∧ MapF P k w' b n' (fun i => if i = j then some v else f i) ∧ w.grownBy w' (some b) := by
  obtain ⟨D, h, hs, hD⟩ := h
  have K := int_keyed hk
  have hkey := keyOf_int_mk hk hj
  obtain ⟨w', hr, ho, hg⟩ := h.update K ht hn hkey (val := v) (d := .held v) (ps := []) rfl
  have hs2 := size_put (d := .held v) (h.tidy K) (k := .int .i64 j)
  have hle : Maps.size (D.put (.int .i64 j) (.held v)) ≤ n + 1 := by rw [hs2, hs]; split <;> omega
  obtain ⟨es, c, hb, hfit, hsz, hDD⟩ := ho
  have hsz2 : es.size ≤ Maps.size (D.put (.int .i64 j) (.held v)) := by rw [hDD]; simp [Maps.size, length_sorted]
  refine ⟨w', _, hle, hr, ⟨_, ⟨es, c, hb, hfit, hsz2, hDD⟩, rfl, fun i => ?_⟩, hg⟩
  by_cases hi : i = j
  · subst hi
    rw [has_put_same h.isMap (K.key hkey)]
    refine ⟨by simp, fun u z hu => ?_⟩
    simp at hu
    subst hu
    exact atKey_put_same h.isMap (K.key hkey) _ _
  · have hne : (Lit.int .i64 i) ≠ .int .i64 j := fun e => hi (by cases e; rfl)
    rw [has_put_other hne]
    refine ⟨by simpa [hi] using (hD i).1, fun u z hu => ?_⟩
    simp [hi] at hu
    rw [atKey_put_other hne]
    exact (hD i).2 u z hu

theorem MapF.len (h : MapF P k w b n f) (ht : P.underlying t = some (.map k e)) (ty : TypeId) : (Builtin.len_ #[t] ty #[.map (some b)]).run P w = .ok (.int .i64 n) w := by
  obtain ⟨D, h, hs, _⟩ := h
  rw [h.len ht ty, hs]

/-- 'm[j] = v', j not there till now. -/
theorem MapF.put (h : MapF P k w b n f) (hk : P.underlying k = some (.int .i64)) (ht : P.underlying t = some (.map k e)) (hn : n < maxLen) {j : Int} (hj : (Lit.int .i64 j).wf = true) (hf : f j = none) (v : Value) :
    ∃ w', (Instr.mapUpdate t (.map (some b)) (.int .i64 j) v).run P w = .ok () w' ∧ MapF P k w' b (n + 1) (fun i => if i = j then some v else f i) ∧ w.grownBy w' (some b) := by
  obtain ⟨D, h, hs, hD⟩ := h
  have K := int_keyed hk
  have hkey := keyOf_int_mk hk hj
  obtain ⟨w', hr, ho, hg⟩ := h.update K ht hn hkey (val := v) (d := .held v) (ps := []) rfl
  have h0 : Maps.has D (.int .i64 j) = false := by rw [(hD j).1, hf]; rfl
  refine ⟨w', hr, ⟨_, ho, ?_, fun i => ?_⟩, hg⟩
  · rw [size_put (h.tidy K), h0, hs]; rfl
  · by_cases hi : i = j
    · subst hi
      rw [has_put_same h.isMap (K.key hkey)]
      refine ⟨by simp, fun u z hu => ?_⟩
      simp at hu
      subst hu
      exact atKey_put_same h.isMap (K.key hkey) _ _
    · have hne : (Lit.int .i64 i) ≠ .int .i64 j := fun e => hi (by cases e; rfl)
      rw [has_put_other hne]
      refine ⟨by simpa [hi] using (hD i).1, fun u z hu => ?_⟩
      simp [hi] at hu
      rw [atKey_put_other hne]
      exact (hD i).2 u z hu
end

/-- The store at the operation, for a walk. -/
theorem wpList_put_mapF {P : Program} (w : World) {ops : Array Oper} {rest : List Oper} {o : Oper} {a : Act} {Q : Exit → Act → World → Prop}
    (hg : o.guard = none) (m x v : Operand) (t : TypeId) (hop : o.op = Op.mapUpdate t m x v)
    (k e : TypeId) (hk : P.underlying k = some (.int .i64)) (ht : P.underlying t = some (.map k e)) (b n : Nat) (f : Int → Option Value)
    (hm : a.eval m = .map (some b)) (h : MapF P k w b n f) (hn : n < maxLen) (j : Int) (hx : a.eval x = .int .i64 j) (hj : (Lit.int .i64 j).wf = true) (hf : f j = none) (val : Value) (hv : a.eval v = val)
    (hK : ∀ w', MapF P k w' b (n + 1) (fun i => if i = j then some val else f i) → w.grownBy w' (some b) → wpList P ops Q rest (a.put o.dst undef) w') :
    wpList P ops Q (o :: rest) a w := by
  refine wpList_plain hg fun K' hK' => ?_
  obtain ⟨w', hrun, r1, r2⟩ := h.put hk ht hn hj hf val
  unfold Oper.wp
  simp [execOp, hop, hm, hx, hv, hrun, Result.andThen]
  exact hK' _ _ (hK w' r1 r2)
/-- The look-up at the operation, for a walk: the number is there. -/
theorem wpList_hit_mapF {P : Program} (w : World) {ops : Array Oper} {rest : List Oper} {o : Oper} {a : Act} {Q : Exit → Act → World → Prop}
    (hg : o.guard = none) (m x : Operand) (t : TypeId) (hop : o.op = Op.lookup t m x true)
    (k e : TypeId) (hk : P.underlying k = some (.int .i64)) (ht : P.underlying t = some (.map k e)) (z : Value) (hz : (zeroValue e).run P w = .ok z w) (b n : Nat) (f : Int → Option Value)
    (hm : a.eval m = .map (some b)) (h : MapF P k w b n f) (j : Int) (hx : a.eval x = .int .i64 j) (hj : (Lit.int .i64 j).wf = true) (v : Value) (hf : f j = some v)
    (hK : wpList P ops Q rest (a.put o.dst (.tuple #[v, .bool true])) w) :
    wpList P ops Q (o :: rest) a w := by
  refine wpList_plain hg fun K' hK' => ?_
  have hrun := h.hit hk ht hz hj hf
  unfold Oper.wp
  simp [execOp, hop, hm, hx, hrun, Result.andThen]
  exact hK' _ _ hK

/-- .. the number is not there. -/
theorem wpList_miss_mapF {P : Program} (w : World) {ops : Array Oper} {rest : List Oper} {o : Oper} {a : Act} {Q : Exit → Act → World → Prop}
    (hg : o.guard = none) (m x : Operand) (t : TypeId) (hop : o.op = Op.lookup t m x true)
    (k e : TypeId) (hk : P.underlying k = some (.int .i64)) (ht : P.underlying t = some (.map k e)) (z : Value) (hz : (zeroValue e).run P w = .ok z w) (b n : Nat) (f : Int → Option Value)
    (hm : a.eval m = .map (some b)) (h : MapF P k w b n f) (j : Int) (hx : a.eval x = .int .i64 j) (hj : (Lit.int .i64 j).wf = true) (hf : f j = none)
    (hK : wpList P ops Q rest (a.put o.dst (.tuple #[z, .bool false])) w) :
    wpList P ops Q (o :: rest) a w := by
  refine wpList_plain hg fun K' hK' => ?_
  have hrun := h.miss hk ht hz hj hf
  unfold Oper.wp
  simp [execOp, hop, hm, hx, hrun, Result.andThen]
  exact hK' _ _ hK
end Go.Proofs.Ytdohepenmejcaaa.base
