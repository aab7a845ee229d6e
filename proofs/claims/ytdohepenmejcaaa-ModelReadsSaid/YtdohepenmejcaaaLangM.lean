/- What a transaction does, as plain numbers: of no program. An operation is told by three numbers: kind, object, arg; a list by z : which one, which number. -/
import Derived.Test.YtdohepenmejcaaaGrow
import Derived.Test.YtdohepenmejcaaaOpen
import Derived.Deep.AppendSrc
import Derived.Deep.Upon
namespace Go.Proofs.Ytdohepenmejcaaa.lg
open Go Go.RowKit Go.Proofs.Ytdohepenmejcaaa.base

/-- May it be, of n objects? -/
def okB (k o a n : Int) : Bool := if k = 3 ∨ k = 4 then decide (o = 0 ∧ -128 ≤ a ∧ a ≤ 127) else decide (1 ≤ k ∧ k ≤ 5 ∧ 0 ≤ o ∧ o < n ∧ a = 0)

theorem okB_obj {k o a : Int} {n : Nat} (h : okB k o a n = true) (hk : k = 1 ∨ k = 2) : ∃ i : Nat, o = i ∧ i < n := by
  unfold okB at h
  rw [if_neg (by omega)] at h
  simp at h
  exact ⟨o.toNat, by omega, by omega⟩
theorem okB_kind {k o a n : Int} (h : okB k o a n = true) : k = 1 ∨ k = 2 ∨ k = 3 ∨ k = 4 ∨ k = 5 := by
  unfold okB at h
  split at h
  · omega
  · simp at h; omega

/-- The first m may be. -/
def okN (z : Nat → Nat → Int) (n : Int) : Nat → Bool
  | 0 => true
  | m + 1 => okN z n m && okB (z m 0) (z m 1) (z m 2) n
theorem okN_at {z : Nat → Nat → Int} {n : Int} {m : Nat} (h : okN z n m = true) {i : Nat} (hi : i < m) : okB (z i 0) (z i 1) (z i 2) n = true := by
  induction m with
  | zero => omega
  | succ m ih =>
    simp only [okN, Bool.and_eq_true] at h
    by_cases e : i = m
    · subst e; exact h.2
    · exact ih h.1 (by omega)
theorem okN_of {z : Nat → Nat → Int} {n : Int} {m : Nat} (h : ∀ i, i < m → okB (z i 0) (z i 1) (z i 2) n = true) : okN z n m = true := by
  induction m with
  | zero => rfl
  | succ m ih =>
    simp only [okN, Bool.and_eq_true]
    exact ⟨ih fun i hi => h i (by omega), h m (by omega)⟩
theorem okN_false {z : Nat → Nat → Int} {n : Int} {m i : Nat} (hi : i < m) (h : okB (z i 0) (z i 1) (z i 2) n = false) : okN z n m = false := by
  cases e : okN z n m with
  | false => rfl
  | true => rw [okN_at e hi] at h; cases h
theorem okN_le {z : Nat → Nat → Int} {n : Int} {m k : Nat} (h : okN z n m = true) (hk : k ≤ m) : okN z n k = true := okN_of fun i hi => okN_at h (by omega)
theorem okN_first {z : Nat → Nat → Int} {n : Int} {m : Nat} (h : okN z n m = false) : ∃ i, i < m ∧ okN z n i = true ∧ okB (z i 0) (z i 1) (z i 2) n = false := by
  induction m with
  | zero => cases h
  | succ m ih =>
    cases e : okN z n m with
    | false =>
      obtain ⟨i, hi, h1, h2⟩ := ih e
      exact ⟨i, by omega, h1, h2⟩
    | true =>
      refine ⟨m, by omega, e, ?_⟩
      simpa [okN, e] using h

/-- Is it a transaction of n objects? -/
def rightB (z : Nat → Nat → Int) (m : Nat) (n : Int) : Bool := decide (0 < m) && decide (m < 9) && okN z n m

/-- The sum behind one. -/
def sumI (k a s : Int) : Int := if k = 3 then a else if k = 4 then wrap64 (s + a) else s

/-- The sum, and the values, behind the first k of them. -/
def run (z : Nat → Nat → Int) (v : Nat → Int) : Nat → Int × (Nat → Int)
  | 0 => (0, v)
  | k + 1 =>
    let p := run z v k
    if z k 0 = 1 then (p.2 (z k 1).toNat, p.2)
    else if z k 0 = 2 then (p.1, fun i => if i = (z k 1).toNat then p.1 else p.2 i)
    else (sumI (z k 0) (z k 2) p.1, p.2)

/-- How many of the first k read or write. -/
def opens (z : Nat → Nat → Int) : Nat → Nat
  | 0 => 0
  | k + 1 => opens z k + if z k 0 = 1 ∨ z k 0 = 2 then 1 else 0
theorem opens_le (z : Nat → Nat → Int) (k : Nat) : opens z k ≤ k := by
  induction k with
  | zero => exact Nat.le_refl _
  | succ k ih => unfold opens; split <;> omega

/-- The numbers of an operation's cells. -/
def opc (z : Nat → Int) : List Value := [.int .i64 (z 0), .int .i64 (z 1), .int .i64 (z 2)]

/-- The first n operations, as a row of cells. -/
def ops (z : Nat → Nat → Int) (n : Nat) : List Value := (List.range n).flatMap fun i => opc (z i)
theorem ops_succ (z : Nat → Nat → Int) (n : Nat) : ops z (n + 1) = ops z n ++ opc (z n) := by simp [ops, List.range_succ]
theorem ops_length (z : Nat → Nat → Int) (n : Nat) : (ops z n).length = n * 3 := by
  induction n with
  | zero => rfl
  | succ n ih => rw [ops_succ, List.length_append, ih]; simp [opc]; omega
theorem ops_get (z : Nat → Nat → Int) (n i j : Nat) (h : i < n) (hj : j < 3) : (ops z n)[i * 3 + j]? = some (.int .i64 (z i j)) := by
  induction n with
  | zero => omega
  | succ n ih =>
    have hl := ops_length z n
    rw [ops_succ]
    by_cases hi : i < n
    · rw [List.getElem?_append_left (by omega)]
      exact ih hi
    · obtain rfl : i = n := by omega
      rw [List.getElem?_append_right (by omega), hl, show i * 3 + j - i * 3 = j by omega]
      rcases (by omega : j = 0 ∨ j = 1 ∨ j = 2) with rfl | rfl | rfl <;> rfl
theorem ops_congr {z z' : Nat → Nat → Int} {n : Nat} (h : ∀ i j, i < n → j < 3 → z i j = z' i j) : ops z n = ops z' n := by
  induction n with
  | zero => rfl
  | succ n ih => rw [ops_succ, ops_succ, ih (fun i j hi hj => h i j (by omega) hj), opc, opc, h n 0 (by omega) (by omega), h n 1 (by omega) (by omega), h n 2 (by omega) (by omega)]

/-- A slice of operations, wherever it lies: z tells them. -/
def IsOps (w : World) (a : Option Addr) (n : Nat) (z : Nat → Nat → Int) : Prop :=
  n = 0 ∨ ∃ b off, a = some ⟨b, off, none⟩ ∧ b < w.heap.size ∧ ∀ i j, i < n → j < 3 → w.cell? ⟨b, off + (i * 3 + j), none⟩ = some (.int .i64 (z i j))
/-- A slice of numbers, wherever it lies. -/
def IsNums (k : IntKind) (w : World) (a : Option Addr) (n : Nat) (z : Nat → Int) : Prop :=
  n = 0 ∨ ∃ b off, a = some ⟨b, off, none⟩ ∧ b < w.heap.size ∧ ∀ i, i < n → w.cell? ⟨b, off + i, none⟩ = some (.int k (z i))

section
variable {w w' : World} {a : Option Addr} {n : Nat} {z : Nat → Nat → Int} {f : Nat → Int} {k : IntKind}
theorem IsOps.of_ints {cap : Nat} (h : IsInts 3 w a n cap z) : IsOps w a n z := by
  obtain ⟨_, _, h | ⟨b, off, rfl, hb, h⟩⟩ := h
  · exact .inl h
  · exact .inr ⟨b, off, rfl, hb, fun i j hi hj => (h i j hi hj).1⟩
theorem IsNums.of_row {cap : Nat} (h : IsRow k w a n cap f) : IsNums k w a n f := by
  obtain ⟨_, _, h | ⟨b, off, rfl, hb, h⟩⟩ := h
  · exact .inl h
  · exact .inr ⟨b, off, rfl, hb, fun i hi => (h i hi).1⟩
theorem IsOps.keep (h : IsOps w a n z) (g : ∀ b off, a = some ⟨b, off, none⟩ → b < w.heap.size → w'.heap[b]? = w.heap[b]?) (hs : w.heap.size ≤ w'.heap.size) : IsOps w' a n z := by
  rcases h with h | ⟨b, off, rfl, hb, h⟩
  · exact .inl h
  · exact .inr ⟨b, off, rfl, by omega, fun i j hi hj => (World.cell?_of_block (g b off rfl hb)).trans (h i j hi hj)⟩
theorem IsNums.keep (h : IsNums k w a n f) (g : ∀ b off, a = some ⟨b, off, none⟩ → b < w.heap.size → w'.heap[b]? = w.heap[b]?) (hs : w.heap.size ≤ w'.heap.size) : IsNums k w' a n f := by
  rcases h with h | ⟨b, off, rfl, hb, h⟩
  · exact .inl h
  · exact .inr ⟨b, off, rfl, by omega, fun i hi => (World.cell?_of_block (g b off rfl hb)).trans (h i hi)⟩
theorem IsOps.grown (h : IsOps w a n z) (g : w.grownBy w' none) : IsOps w' a n z := h.keep (fun b _ _ hb => g.block b hb (by simp)) g.size
theorem IsNums.grown (h : IsNums k w a n f) (g : w.grownBy w' none) : IsNums k w' a n f := h.keep (fun b _ _ hb => g.block b hb (by simp)) g.size
theorem IsOps.below (h : IsOps w a n z) (g : Below w.heap.size w w') : IsOps w' a n z := h.keep (fun b _ _ hb => g.block b hb) g.size
theorem IsNums.below (h : IsNums k w a n f) (g : Below w.heap.size w w') : IsNums k w' a n f := h.keep (fun b _ _ hb => g.block b hb) g.size
theorem IsOps.less (h : IsOps w a n z) {m : Nat} (hm : m ≤ n) : IsOps w a m z := by
  rcases h with h | ⟨b, off, rfl, hb, h⟩
  · exact .inl (by omega)
  · exact .inr ⟨b, off, rfl, hb, fun i j hi hj => h i j (by omega) hj⟩
theorem IsOps.congr (h : IsOps w a n z) {z' : Nat → Nat → Int} (e : ∀ i j, i < n → j < 3 → z i j = z' i j) : IsOps w a n z' := by
  rcases h with h | ⟨b, off, rfl, hb, h⟩
  · exact .inl h
  · exact .inr ⟨b, off, rfl, hb, fun i j hi hj => by rw [← e i j hi hj]; exact h i j hi hj⟩
theorem IsNums.congr (h : IsNums k w a n f) {f' : Nat → Int} (e : ∀ i, i < n → f i = f' i) : IsNums k w a n f' := by
  rcases h with h | ⟨b, off, rfl, hb, h⟩
  · exact .inl h
  · exact .inr ⟨b, off, rfl, hb, fun i hi => by rw [← e i hi]; exact h i hi⟩
/-- What one owns is one. -/
theorem IsOps.of_own {base : Nat} {e : TypeId} {cap : Nat} (h : w.ownsRow base e 3 (.slice a n cap) n (ops z n)) : IsOps w a n z := by
  rcases h.2 with ⟨_, h0⟩ | ⟨g, cap2, cur, e, hb, hg, _⟩
  · exact .inl h0
  · injection e with e1 e2 e3
    subst e1
    refine .inr ⟨g, 0, rfl, lt_of_block hg, fun i j hi hj => ?_⟩
    rw [Nat.zero_add]
    exact (h.cellAt (i * 3 + j) (by omega)).trans (ops_get z n i j hi hj)
theorem IsNums.of_own {base : Nat} {e : TypeId} {cap : Nat} (h : w.ownsRow base e 1 (.slice a n cap) n ((List.range n).map fun i => .int k (f i))) : IsNums k w a n f := by
  rcases h.2 with ⟨_, h0⟩ | ⟨g, cap2, cur, e, hb, hg, _⟩
  · exact .inl h0
  · injection e with e1 e2 e3
    subst e1
    refine .inr ⟨g, 0, rfl, lt_of_block hg, fun i hi => ?_⟩
    rw [Nat.zero_add]
    refine (h.cellAt i (by omega)).trans ?_
    simp [hi]
theorem IsOps.of_blk {t : TypeId} {b : Nat} (h : Blk t w b ⟨ops z n⟩) : IsOps w (some ⟨b, 0, none⟩) n z := by
  refine .inr ⟨b, 0, rfl, h.lt, fun i j hi hj => ?_⟩
  rw [Nat.zero_add, h.cell]
  simpa using ops_get z n i j hi hj
theorem IsNums.of_blk {t : TypeId} {b : Nat} (h : Blk t w b ⟨(List.range n).map fun i => Value.int k (f i)⟩) : IsNums k w (some ⟨b, 0, none⟩) n f := by
  refine .inr ⟨b, 0, rfl, h.lt, fun i hi => ?_⟩
  rw [Nat.zero_add, h.cell]
  simp [hi]
/-- One of them. -/
theorem IsOps.at3 (h : IsOps w a n z) {i : Nat} (hi : i < n) : ∃ b off, a = some ⟨b, off, none⟩ ∧ b < w.heap.size ∧ w.cell? ⟨b, off + i * 3, none⟩ = some (.int .i64 (z i 0)) ∧ w.cell? ⟨b, off + i * 3 + 1, none⟩ = some (.int .i64 (z i 1)) ∧ w.cell? ⟨b, off + i * 3 + 2, none⟩ = some (.int .i64 (z i 2)) := by
  rcases h with h | ⟨b, off, rfl, hb, h⟩
  · omega
  · exact ⟨b, off, rfl, hb, h i 0 hi (by omega), h i 1 hi (by omega), h i 2 hi (by omega)⟩
theorem IsNums.at1 (h : IsNums k w a n f) {i : Nat} (hi : i < n) : ∃ b off, a = some ⟨b, off, none⟩ ∧ b < w.heap.size ∧ w.cell? ⟨b, off + i, none⟩ = some (.int k (f i)) := by
  rcases h with h | ⟨b, off, rfl, hb, h⟩
  · omega
  · exact ⟨b, off, rfl, hb, h i hi⟩
/-- As the source of an append. -/
theorem IsOps.src (h : IsOps w a n z) : (n = 0 ∧ ops z n = []) ∨ ∃ ad, a = some ad ∧ ∀ j u, (ops z n)[j]? = some u → w.cell? (ad.add j) = some u := by
  rcases h with rfl | ⟨b, off, rfl, hb, h⟩
  · exact .inl ⟨rfl, rfl⟩
  · refine .inr ⟨_, rfl, fun j u hj => ?_⟩
    have hlt := (List.getElem?_eq_some_iff.1 hj).1
    rw [ops_length] at hlt
    have e : j = j / 3 * 3 + j % 3 := by omega
    rw [e, ops_get z n (j / 3) (j % 3) (by omega) (by omega)] at hj
    rw [add_eq, e]
    exact (h (j / 3) (j % 3) (by omega) (by omega)).trans hj
theorem IsNums.src (h : IsNums k w a n f) : (n = 0 ∧ ((List.range n).map fun i => Value.int k (f i)) = []) ∨ ∃ ad, a = some ad ∧ ∀ j u, ((List.range n).map fun i => Value.int k (f i))[j]? = some u → w.cell? (ad.add j) = some u := by
  rcases h with rfl | ⟨b, off, rfl, hb, h⟩
  · exact .inl ⟨rfl, rfl⟩
  · refine .inr ⟨_, rfl, fun j u hj => ?_⟩
    have hlt := (List.getElem?_eq_some_iff.1 hj).1
    simp only [List.length_map, List.length_range] at hlt
    simp [hlt] at hj
    rw [add_eq, ← hj]
    exact h j hlt
end

/-- The first n numbers of f, as bytes. -/
def u8s (f : Nat → Int) (n : Nat) : List Value := (List.range n).map fun i => Value.int .u8 (f i)
theorem u8s_succ3 (f : Nat → Int) (n : Nat) : u8s f (n + 3) = u8s f n ++ [.int .u8 (f n), .int .u8 (f (n + 1)), .int .u8 (f (n + 2))] := by simp [u8s, List.range_succ]
theorem u8s_length (f : Nat → Int) (n : Nat) : (u8s f n).length = n := by simp [u8s]
theorem u8s_congr {f g : Nat → Int} {n : Nat} (h : ∀ i, i < n → f i = g i) : u8s f n = u8s g n := List.map_congr_left fun i hi => by rw [h i (by simpa using hi)]
/-- The bytes of operations. -/
def pb (z : Nat → Nat → Int) (j : Nat) : Int := z (j / 3) (j % 3) % 256
theorem pb0 (z : Nat → Nat → Int) (k : Nat) : pb z (k * 3) = z k 0 % 256 := by unfold pb; rw [show k * 3 / 3 = k by omega, show k * 3 % 3 = 0 by omega]
theorem pb1 (z : Nat → Nat → Int) (k : Nat) : pb z (k * 3 + 1) = z k 1 % 256 := by unfold pb; rw [show (k * 3 + 1) / 3 = k by omega, show (k * 3 + 1) % 3 = 1 by omega]
theorem pb2 (z : Nat → Nat → Int) (k : Nat) : pb z (k * 3 + 2) = z k 2 % 256 := by unfold pb; rw [show (k * 3 + 2) / 3 = k by omega, show (k * 3 + 2) % 3 = 2 by omega]
/-- A byte of two's complement. -/
def s8 (x : Int) : Int := if 127 < x then x - 256 else x
/-- The operations of bytes. -/
def gz (f : Nat → Int) (i j : Nat) : Int := if j = 2 then s8 (f (i * 3 + 2)) else f (i * 3 + j)

theorem one_ops (z : Nat → Nat → Int) (n : Nat) : ∀ u ∈ ops z n, u.oneCell' = true := by
  intro u hu
  obtain ⟨i, _, hi⟩ := List.mem_flatMap.1 hu
  simp only [opc, List.mem_cons, List.not_mem_nil, or_false] at hi
  rcases hi with rfl | rfl | rfl <;> rfl
theorem one_nums (k : IntKind) (f : Nat → Int) (n : Nat) : ∀ u ∈ (List.range n).map (fun i => Value.int k (f i)), u.oneCell' = true := by
  intro u hu
  obtain ⟨_, _, rfl⟩ := List.mem_map.1 hu
  rfl

theorem ownsRow_drop {base base' : Nat} {e : TypeId} {sz : Nat} {w : World} {v : Value} {n : Nat} {xs : List Value} (h : w.ownsRow base e sz v n xs) (hb : base' ≤ base) : w.ownsRow base' e sz v n xs := by
  refine ⟨h.1, ?_⟩
  rcases h.2 with hn | ⟨g, cap, cur, rfl, h4, h5, rest⟩
  · exact .inl hn
  · exact .inr ⟨g, cap, cur, rfl, Nat.le_trans hb h4, h5, rest⟩
/-- How much room it has. -/
theorem row_cap {base : Nat} {e : TypeId} {sz : Nat} {w : World} {a : Option Addr} {n cap : Nat} {xs : List Value} (h : w.ownsRow base e sz (.slice a n cap) n xs) : n ≤ cap ∧ cap ≤ maxLen := by
  rcases h.2 with ⟨e, h0⟩ | ⟨g, c, cur, e, _, _, h6, h7, _⟩
  · injection e with _ e2 e3
    subst e3
    exact ⟨by omega, by unfold maxLen; omega⟩
  · injection e with _ e2 e3
    subst e3
    exact ⟨h6, h7⟩
theorem bytes_of {w : World} {a : Option Addr} {n cap : Nat} {f : Nat → Int} (h : IsRow .u8 w a n cap f) : ∀ i, i < n → 0 ≤ f i ∧ f i ≤ 255 := by
  intro i hi
  obtain ⟨_, _, h | ⟨b, off, rfl, _, h⟩⟩ := h
  · omega
  · exact bounds_u8 (h i hi).2

/-- A block that was made just now, as the source of an append. -/
theorem new_src (w : World) (l : List Value) (e : TypeId) (H : Nat) (h : w.heap.size = H) {m : Nat} : (m = 0 ∧ l = []) ∨ ∃ ad, (some ⟨H, 0, none⟩ : Option Addr) = some ad ∧ ∀ j u, l[j]? = some u → (w.alloc (.cells l.toArray e)).cell? (ad.add j) = some u := by
  subst h
  exact .inr ⟨_, rfl, fun j u hu => new_cells w l e j u hu⟩

/-- append onto a slice of one's own, of whatever slice, of nothing, too. -/
theorem run_append_any {P : Program} (w : World) (base : Nat) (t ty e : TypeId) (i : TypeInfo) (z : Value) (size bytes : Nat) (ht : P.underlying t = some (.slice e)) (hi : P.info? e = some i) (hz : i.zero = some z)
    (hsize : i.size = size) (hby : i.bytes = bytes) (hzs : z.cells.size = size) (hsz : 0 < size)
    (v : Value) (n : Nat) (xs : List Value) (hown : w.ownsRow base e size v n xs)
    (ao : Option Addr) (m c : Nat) (news : List Value) (hl : news.length = m * size) (hsrc : (m = 0 ∧ news = []) ∨ ∃ ad, ao = some ad ∧ ∀ j u, news[j]? = some u → w.cell? (ad.add j) = some u) (h1 : ∀ u ∈ news, u.oneCell' = true)
    (h63 : n + m ≤ maxLen) (hbytes : (n + m) * bytes ≤ 140737488355328) (hbase : base ≤ w.heap.size) :
    ∃ v' w', (Builtin.append_ #[t, t] ty #[v, .slice ao m c]).run P w = .ok v' w' ∧ w'.ownsRow base e size v' (n + m) (xs ++ news) ∧ w.grownBy w' v.ownBlock ∧
      (v'.ownBlock = v.ownBlock ∨ ∃ k, v'.ownBlock = some k ∧ w.heap.size ≤ k) := by
  by_cases hao : ∃ ad, ao = some ad
  · obtain ⟨ad, rfl⟩ := hao
    refine run_append_at w base t ty e i z size bytes ht hi hz hsize hby hzs hsz v n xs hown ad m c news hl ?_ h1 h63 hbytes hbase
    rcases hsrc with ⟨rfl, rfl⟩ | ⟨ad', e', h⟩
    · intro j u h'; simp at h'
    · cases e'; exact h
  · obtain rfl : ao = none := by
      cases ao with
      | none => rfl
      | some ad => exact absurd ⟨ad, rfl⟩ hao
    rcases hsrc with ⟨rfl, rfl⟩ | ⟨ad', e', h⟩
    · obtain ⟨sb, cap, rfl, hle⟩ : ∃ sb cap, v = .slice sb n cap ∧ n ≤ cap := by
        rcases hown.2 with ⟨rfl, rfl⟩ | ⟨g, cap, cur, rfl, _, _, hnc, _⟩
        · exact ⟨none, 0, rfl, Nat.le_refl _⟩
        · exact ⟨_, cap, rfl, hnc⟩
      subst hsize
      exact ⟨_, _, run_append_nothing (P := P) w t t ty e i ht hi sb n cap hle _ (Src.ofNil (P := P) w ht c), by simpa using hown, gb_refl _ _, .inl rfl⟩
    · cases e'

theorem wpList_append_any {P : Program} (w : World) {ops : Array Oper} {rest : List Oper} {o : Oper} {a : Act} {Q : Exit → Act → World → Prop}
    (hgd : o.guard = none) (s x : Operand) (t : TypeId) (hop : o.op = Op.call { callee := Callee.builtin Builtin.append, args := #[s, x], argTypes := #[t, t] })
    (base : Nat) (e : TypeId) (i : TypeInfo) (z : Value) (size bytes : Nat) (h1 : P.underlying t = some (.slice e)) (h2 : P.info? e = some i) (h3 : i.zero = some z) (h4 : i.size = size) (h5 : i.bytes = bytes) (h6 : z.cells.size = size) (h7 : 0 < size)
    (v : Value) (n : Nat) (xs : List Value) (hs : a.eval s = v) (hown : w.ownsRow base e size v n xs)
    (ao : Option Addr) (m c : Nat) (news : List Value) (hx : a.eval x = .slice ao m c) (hl : news.length = m * size) (hsrc : (m = 0 ∧ news = []) ∨ ∃ ad, ao = some ad ∧ ∀ j u, news[j]? = some u → w.cell? (ad.add j) = some u) (h1c : ∀ u ∈ news, u.oneCell' = true)
    (h63 : n + m ≤ maxLen) (hbytes : (n + m) * bytes ≤ 140737488355328) (hbase : base ≤ w.heap.size)
    (hK : ∀ b' cap w', w'.ownsRow base e size (.slice b' (n + m) cap) (n + m) (xs ++ news) → w.grownBy w' v.ownBlock → ((Value.slice b' (n + m) cap).ownBlock = v.ownBlock ∨ ∃ k, (Value.slice b' (n + m) cap).ownBlock = some k ∧ w.heap.size ≤ k) → wpList P ops Q rest (a.put o.dst (.slice b' (n + m) cap)) w') :
    wpList P ops Q (o :: rest) a w := by
  refine wpList_plain hgd fun K hK' => ?_
  obtain ⟨v', w', hrun, r1, r2, r3⟩ := run_append_any (P := P) w base t o.type e i z size bytes h1 h2 h3 h4 h5 h6 h7 v n xs hown ao m c news hl hsrc h1c h63 hbytes hbase
  obtain ⟨b', cap, rfl⟩ : ∃ b' cap, v' = .slice b' (n + m) cap := by
    rcases r1.2 with ⟨rfl, h0⟩ | ⟨g, cap, cur, rfl, _⟩
    · exact ⟨none, 0, by rw [h0]⟩
    · exact ⟨_, cap, rfl⟩
  unfold Oper.wp
  simp [execOp, hop, resolve, invoke, builtin, hs, hx, hrun, Result.andThen]
  exact hK' _ _ (hK b' cap w' r1 r2 r3)
end Go.Proofs.Ytdohepenmejcaaa.lg
