/- A map whose keys are of whatever type, told by a function: plain facts on memory, of no program; and the operations on it, for a walk and for a walk inside a fence. The elements are held as they are. -/
import Derived.Maps.OwnSet
import Derived.Maps.OwnIn
import Derived.Maps.RangeWalk
import Derived.Test.YtdohepenmejcaaaMap
import Derived.Test.YtdohepenmejcaaaGrow
namespace Go.Proofs.Ytdohepenmejcaaa.base
open Go Go.RowKit Go.Maps

/-- Block b is a map of n entries at most, from the keys kv x to what f tells. -/
def MapG (P : Program) (k : TypeId) {κ : Type} (kv : κ → Value) (w : World) (b n : Nat) (f : κ → Option Value) : Prop :=
  ∃ D, w.ownsMap P k heldR b n D ∧ ∀ x kl, keyOf P k (kv x) = some kl → Maps.has D kl = (f x).isSome ∧ ∀ v z, f x = some v → D.atKey kl z = .held v

section
variable {P : Program} {k e t : TypeId} {κ : Type} {kv : κ → Value} {w w' : World} {b n m : Nat} {f g : κ → Option Value}

theorem MapG.lt (h : MapG P k kv w b n f) : b < w.heap.size := by
  obtain ⟨D, h, _⟩ := h
  exact h.lt
theorem MapG.keep (h : MapG P k kv w b n f) (hb : w'.heap[b]? = w.heap[b]?) : MapG P k kv w' b n f := by
  obtain ⟨D, ⟨es, c, h1, h2⟩, h3⟩ := h
  exact ⟨D, ⟨es, c, hb.trans h1, h2⟩, h3⟩
theorem MapG.grown (h : MapG P k kv w b n f) {r : Option Nat} (hg : w.grownBy w' r) (hr : some b ≠ r) : MapG P k kv w' b n f := h.keep (hg.block b h.lt hr)
theorem MapG.only {S : Nat → Prop} (h : MapG P k kv w b n f) (hg : Only S w w') (hr : ¬ S b) : MapG P k kv w' b n f := h.keep (hg.block b h.lt hr)
theorem MapG.not_cells (h : MapG P k kv w b n f) {cs : Array Value} {ty : TypeId} {fr : Nat × Nat} : w.heap[b]? ≠ some (.cells cs ty fr) := by
  obtain ⟨D, ⟨es, c, h1, h2⟩, h3⟩ := h
  rw [h1]
  simp
theorem MapG.ne_blk (h : MapG P k kv w b n f) {c : Nat} {ty : TypeId} {cs : Array Value} (g : Blk ty w c cs) : b ≠ c := fun e => h.not_cells (by rw [e]; exact g)
theorem MapG.made (w : World) (P : Program) (k : TypeId) (kv : κ → Value) : MapG P k kv (w.alloc (.map #[] 0)) w.heap.size 0 (fun _ => none) :=
  ⟨_, World.ownsMap_made w P k heldR, fun x kl _ => ⟨rfl, by simp⟩⟩
theorem MapG.more (h : MapG P k kv w b n f) (hn : n ≤ m) : MapG P k kv w b m f := by
  obtain ⟨D, h1, h2⟩ := h
  exact ⟨D, h1.mono hn, h2⟩
theorem MapG.congr (h : MapG P k kv w b n f) (he : ∀ x kl, keyOf P k (kv x) = some kl → g x = f x) : MapG P k kv w b n g := by
  obtain ⟨D, h1, h2⟩ := h
  refine ⟨D, h1, fun x kl hx => ?_⟩
  rw [he x kl hx]
  exact h2 x kl hx

theorem MapG.look (h : MapG P k kv w b n f) (K : Keyed P k) (ht : P.underlying t = some (.map k e)) {z : Value} (hz : (zeroValue e).run P w = .ok z w) {x : κ} {kl : Lit} (hx : keyOf P k (kv x) = some kl) :
    (Instr.lookup t (.map (some b)) (kv x) true).run P w = .ok (.tuple #[(f x).getD z, .bool (f x).isSome]) w := by
  obtain ⟨D, h, hD⟩ := h
  obtain ⟨u, ps, hr, hu⟩ := h.look_ok K ht hz (zd := .held z) rfl hx
  rw [hr, (hD x kl hx).1]
  cases hf : f x with
  | none =>
    have h0 : Maps.has D kl = false := by rw [(hD x kl hx).1, hf]; rfl
    rw [atKey_of_not_has h0] at hu
    simp only [heldR, Option.some.injEq, Prod.mk.injEq, DataW.held.injEq] at hu
    rw [hu.1]
    rfl
  | some v =>
    rw [(hD x kl hx).2 v _ hf] at hu
    simp only [heldR, Option.some.injEq, Prod.mk.injEq, DataW.held.injEq] at hu
    rw [hu.1]
    rfl
theorem MapG.get (h : MapG P k kv w b n f) (K : Keyed P k) (ht : P.underlying t = some (.map k e)) {z : Value} (hz : (zeroValue e).run P w = .ok z w) {x : κ} {kl : Lit} (hx : keyOf P k (kv x) = some kl) :
    (Instr.lookup t (.map (some b)) (kv x) false).run P w = .ok ((f x).getD z) w := by
  obtain ⟨D, h, hD⟩ := h
  obtain ⟨u, ps, hr, hu⟩ := h.lookup K ht hz (zd := .held z) rfl hx
  rw [hr]
  cases hf : f x with
  | none =>
    have h0 : Maps.has D kl = false := by rw [(hD x kl hx).1, hf]; rfl
    rw [atKey_of_not_has h0] at hu
    simp only [heldR, Option.some.injEq, Prod.mk.injEq, DataW.held.injEq] at hu
    rw [hu.1]
    rfl
  | some v =>
    rw [(hD x kl hx).2 v _ hf] at hu
    simp only [heldR, Option.some.injEq, Prod.mk.injEq, DataW.held.injEq] at hu
    rw [hu.1]
    rfl

open Classical in
/-- f, but v at x. -/
noncomputable def upd (f : κ → Option Value) (x : κ) (v : Option Value) : κ → Option Value := fun y => if y = x then v else f y
theorem upd_same (f : κ → Option Value) (x : κ) (v : Option Value) : upd f x v x = v := by simp [upd]
theorem upd_other (f : κ → Option Value) {x y : κ} (v : Option Value) (h : y ≠ x) : upd f x v y = f y := by simp [upd, h]

theorem MapG.set (h : MapG P k kv w b n f) (K : Keyed P k) (hinj : ∀ x y, kv x = kv y → x = y) (ht : P.underlying t = some (.map k e)) (hn : n < maxLen) {x : κ} {kl : Lit} (hx : keyOf P k (kv x) = some kl) (v : Value) :
    ∃ w', (Instr.mapUpdate t (.map (some b)) (kv x) v).run P w = .ok () w' ∧ MapG P k kv w' b (n + 1) (upd f x (some v)) ∧ w.grownBy w' (some b) := by
  obtain ⟨D, h, hD⟩ := h
  obtain ⟨w', hr, ho, hg⟩ := h.update K ht hn hx (val := v) (d := .held v) (ps := []) rfl
  refine ⟨w', hr, ⟨_, ho, fun y yl hy => ?_⟩, hg⟩
  by_cases hi : y = x
  · subst hi
    rw [hx] at hy
    cases hy
    rw [upd_same, has_put_same h.isMap (K.key hx)]
    refine ⟨by simp, fun u z hu => ?_⟩
    cases hu
    exact atKey_put_same h.isMap (K.key hx) _ _
  · have hne : yl ≠ kl := fun e => hi (hinj _ _ (K.inj (e ▸ hy) hx))
    rw [upd_other f (some v) hi, has_put_other hne]
    refine ⟨(hD y yl hy).1, fun u z hu => ?_⟩
    rw [atKey_put_other hne]
    exact (hD y yl hy).2 u z hu
theorem MapG.del (h : MapG P k kv w b n f) (K : Keyed P k) (hinj : ∀ x y, kv x = kv y → x = y) (ht : P.underlying t = some (.map k e)) {x : κ} {kl : Lit} (hx : keyOf P k (kv x) = some kl) (ty : TypeId) :
    ∃ w', (Builtin.delete_ #[t, k] ty #[.map (some b), kv x]).run P w = .ok (.tuple #[]) w' ∧ MapG P k kv w' b n (upd f x none) ∧ w.grownBy w' (some b) := by
  obtain ⟨D, h, hD⟩ := h
  obtain ⟨w', hr, ho, hg⟩ := h.drop K ht hx ty
  refine ⟨w', hr, ⟨_, ho, fun y yl hy => ?_⟩, hg.grown⟩
  by_cases hi : y = x
  · subst hi
    rw [hx] at hy
    cases hy
    rw [upd_same, has_del_same]
    exact ⟨rfl, by simp⟩
  · have hne : yl ≠ kl := fun e => hi (hinj _ _ (K.inj (e ▸ hy) hx))
    rw [upd_other f none hi, has_del_other hne]
    refine ⟨(hD y yl hy).1, fun u z hu => ?_⟩
    rw [atKey_del_other hne]
    exact (hD y yl hy).2 u z hu
end

section
variable {P : Program} {κ : Type} {ops : Array Oper} {rest : List Oper} {o : Oper} {a : Act} {Q : Exit → Act → World → Prop} {w : World} {F : Fence} {nF : Nat}
/-- 'v, ok := m[x]', for a walk. -/
theorem wpList_look_mapG (hg : o.guard = none) (m x : Operand) (t : TypeId) (hop : o.op = Op.lookup t m x true)
    (k e : TypeId) (K : Keyed P k) (ht : P.underlying t = some (.map k e)) (z : Value) (hz : (zeroValue e).run P w = .ok z w) (kv : κ → Value) (b n : Nat) (f : κ → Option Value)
    (hm : a.eval m = .map (some b)) (h : MapG P k kv w b n f) (j : κ) (kl : Lit) (hx : a.eval x = kv j) (hj : keyOf P k (kv j) = some kl) (v : Value) (c : Bool) (hv : (f j).getD z = v) (hc : (f j).isSome = c)
    (hK : wpList P ops Q rest (a.put o.dst (.tuple #[v, .bool c])) w) :
    wpList P ops Q (o :: rest) a w := by
  refine wpList_plain hg fun K' hK' => ?_
  have hrun := h.look K ht hz hj
  rw [hv, hc] at hrun
  unfold Oper.wp
  simp [execOp, hop, hm, hx, hrun, Result.andThen]
  exact hK' _ _ hK
theorem wpListIn_look_mapG (hg : o.guard = none) (m x : Operand) (t : TypeId) (hop : o.op = Op.lookup t m x true)
    (k e : TypeId) (K : Keyed P k) (ht : P.underlying t = some (.map k e)) (z : Value) (hz : (zeroValue e).run P w = .ok z w) (kv : κ → Value) (b n : Nat) (f : κ → Option Value)
    (hm : a.eval m = .map (some b)) (h : MapG P k kv w b n f) (j : κ) (kl : Lit) (hx : a.eval x = kv j) (hj : keyOf P k (kv j) = some kl) (v : Value) (c : Bool) (hv : (f j).getD z = v) (hc : (f j).isSome = c)
    (hK : wpListIn F nF P ops Q rest (a.put o.dst (.tuple #[v, .bool c])) w) :
    wpListIn F nF P ops Q (o :: rest) a w := by
  refine wpListIn_plain hg fun K' hK' => ?_
  have hrun := h.look K ht hz hj
  rw [hv, hc] at hrun
  unfold Oper.wpIn
  refine ⟨by simp [Oper.about, hop], ?_⟩
  rw [Oper.semAt_plain F _ _ (by rw [hop]; intro c hc'; cases hc')]
  simp [execOp, hop, hm, hx, hrun, Result.andThen]
  exact hK' _ _ hK
theorem wpList_get_mapG (hg : o.guard = none) (m x : Operand) (t : TypeId) (hop : o.op = Op.lookup t m x false)
    (k e : TypeId) (K : Keyed P k) (ht : P.underlying t = some (.map k e)) (z : Value) (hz : (zeroValue e).run P w = .ok z w) (kv : κ → Value) (b n : Nat) (f : κ → Option Value)
    (hm : a.eval m = .map (some b)) (h : MapG P k kv w b n f) (j : κ) (kl : Lit) (hx : a.eval x = kv j) (hj : keyOf P k (kv j) = some kl) (v : Value) (hv : (f j).getD z = v)
    (hK : wpList P ops Q rest (a.put o.dst v) w) :
    wpList P ops Q (o :: rest) a w := by
  refine wpList_plain hg fun K' hK' => ?_
  have hrun := h.get K ht hz hj
  rw [hv] at hrun
  unfold Oper.wp
  simp [execOp, hop, hm, hx, hrun, Result.andThen]
  exact hK' _ _ hK
/-- 'm[x] = v'. -/
theorem wpList_set_mapG (hg : o.guard = none) (m x v : Operand) (t : TypeId) (hop : o.op = Op.mapUpdate t m x v)
    (k e : TypeId) (K : Keyed P k) (kv : κ → Value) (hinj : ∀ x y, kv x = kv y → x = y) (ht : P.underlying t = some (.map k e)) (b n : Nat) (f : κ → Option Value)
    (hm : a.eval m = .map (some b)) (h : MapG P k kv w b n f) (hn : n < maxLen) (j : κ) (kl : Lit) (hx : a.eval x = kv j) (hj : keyOf P k (kv j) = some kl) (val : Value) (hv : a.eval v = val)
    (hK : ∀ w', MapG P k kv w' b (n + 1) (upd f j (some val)) → w.grownBy w' (some b) → wpList P ops Q rest (a.put o.dst undef) w') :
    wpList P ops Q (o :: rest) a w := by
  refine wpList_plain hg fun K' hK' => ?_
  obtain ⟨w', hrun, r1, r2⟩ := h.set K hinj ht hn hj val
  unfold Oper.wp
  simp [execOp, hop, hm, hx, hv, hrun, Result.andThen]
  exact hK' _ _ (hK w' r1 r2)
theorem wpListIn_set_mapG (hg : o.guard = none) (m x v : Operand) (t : TypeId) (hop : o.op = Op.mapUpdate t m x v)
    (k e : TypeId) (K : Keyed P k) (kv : κ → Value) (hinj : ∀ x y, kv x = kv y → x = y) (ht : P.underlying t = some (.map k e)) (b n : Nat) (f : κ → Option Value)
    (hm : a.eval m = .map (some b)) (h : MapG P k kv w b n f) (hn : n < maxLen) (j : κ) (kl : Lit) (hx : a.eval x = kv j) (hj : keyOf P k (kv j) = some kl) (val : Value) (hv : a.eval v = val)
    (hK : ∀ w', MapG P k kv w' b (n + 1) (upd f j (some val)) → w.grownBy w' (some b) → wpListIn F nF P ops Q rest (a.put o.dst undef) w') :
    wpListIn F nF P ops Q (o :: rest) a w := by
  refine wpListIn_plain hg fun K' hK' => ?_
  obtain ⟨w', hrun, r1, r2⟩ := h.set K hinj ht hn hj val
  unfold Oper.wpIn
  refine ⟨by simp [Oper.about, hop], ?_⟩
  rw [Oper.semAt_plain F _ _ (by rw [hop]; intro c hc'; cases hc')]
  simp [execOp, hop, hm, hx, hv, hrun, Result.andThen]
  exact hK' _ _ (hK w' r1 r2)
/-- 'delete(m, x)'. -/
theorem wpList_del_mapG (hg : o.guard = none) (m x : Operand) (t k : TypeId) (hop : o.op = Op.call { callee := Callee.builtin Builtin.delete, args := #[m, x], argTypes := #[t, k] })
    (e : TypeId) (K : Keyed P k) (kv : κ → Value) (hinj : ∀ x y, kv x = kv y → x = y) (ht : P.underlying t = some (.map k e)) (b n : Nat) (f : κ → Option Value)
    (hm : a.eval m = .map (some b)) (h : MapG P k kv w b n f) (j : κ) (kl : Lit) (hx : a.eval x = kv j) (hj : keyOf P k (kv j) = some kl)
    (hK : ∀ w', MapG P k kv w' b n (upd f j none) → w.grownBy w' (some b) → wpList P ops Q rest (a.put o.dst (.tuple #[])) w') :
    wpList P ops Q (o :: rest) a w := by
  refine wpList_plain hg fun K' hK' => ?_
  obtain ⟨w', hrun, r1, r2⟩ := h.del K hinj ht hj o.type
  unfold Oper.wp
  simp [execOp, hop, resolve, invoke, builtin, hm, hx, hrun, Result.andThen]
  exact hK' _ _ (hK w' r1 r2)
theorem wpListIn_del_mapG (hg : o.guard = none) (m x : Operand) (t k : TypeId) (hop : o.op = Op.call { callee := Callee.builtin Builtin.delete, args := #[m, x], argTypes := #[t, k] })
    (e : TypeId) (K : Keyed P k) (kv : κ → Value) (hinj : ∀ x y, kv x = kv y → x = y) (ht : P.underlying t = some (.map k e)) (b n : Nat) (f : κ → Option Value)
    (hm : a.eval m = .map (some b)) (h : MapG P k kv w b n f) (j : κ) (kl : Lit) (hx : a.eval x = kv j) (hj : keyOf P k (kv j) = some kl)
    (hK : ∀ w', MapG P k kv w' b n (upd f j none) → w.grownBy w' (some b) → wpListIn F nF P ops Q rest (a.put o.dst (.tuple #[])) w') :
    wpListIn F nF P ops Q (o :: rest) a w := by
  refine wpListIn_plain hg fun K' hK' => ?_
  obtain ⟨w', hrun, r1, r2⟩ := h.del K hinj ht hj o.type
  unfold Oper.wpIn
  refine ⟨by simp [Oper.about, hop, resolve, Target.leads, Sem.run_pure], ?_⟩
  rw [Oper.semAt_plain F _ _ (by rw [hop]; intro c hc'; cases hc')]
  simp [execOp, hop, resolve, invoke, builtin, hm, hx, hrun, Result.andThen]
  exact hK' _ _ (hK w' r1 r2)
end

theorem vint_inj (x y : Int) (h : Value.int .i64 x = .int .i64 y) : x = y := by cases h; rfl
/-- A struct of two numbers, or a row of two. -/
def two (x : Int × Int) : Value := .agg #[.int .i64 x.1, .int .i64 x.2]
theorem two_inj (x y : Int × Int) (h : two x = two y) : x = y := by
  obtain ⟨a, b⟩ := x
  obtain ⟨c, d⟩ := y
  unfold two at h
  simp at h
  rw [h.1, h.2]
end Go.Proofs.Ytdohepenmejcaaa.base
