/- Lists of things of some cells each, as rows of cells; one's own blocks by their shape: plain facts, of no program. -/
import Derived.Test.YtdohepenmejcaaaOwn
import Derived.Test.YtdohepenmejcaaaLangM
namespace Go.Proofs.Ytdohepenmejcaaa.base
open Go Go.RowKit Go.Proofs.Ytdohepenmejcaaa.lg

/-- The cells of a list of things. -/
def rows {α : Type} (f : α → List Value) (l : List α) : List Value := l.flatMap f

/-- A list of blocks: their numbers, types, cells. -/
abbrev Blks := List (Nat × TypeId × List Value)

/-- A slice of things lies where a says. -/
def IsL {α : Type} (f : α → List Value) (w : World) (a : Option Addr) (l : List α) : Prop :=
  l = [] ∨ ∃ b off, a = some ⟨b, off, none⟩ ∧ b < w.heap.size ∧ ∀ j u, (rows f l)[j]? = some u → w.cell? ⟨b, off + j, none⟩ = some u

/-- v is a slice of one's own of the things of l, of type e, k cells each; its blocks are those of L: none or one. -/
def Row {α : Type} (f : α → List Value) (k : Nat) (e : TypeId) (l : List α) (v : Value) (L : Blks) : Prop :=
  (l = [] ∧ v = .slice none 0 0 ∧ L = []) ∨ ∃ g cap cur, v = .slice (some ⟨g, 0, none⟩) l.length cap ∧ L = [(g, e, cur)] ∧ l.length ≤ cap ∧ cap ≤ maxLen ∧ cur.length = cap * k ∧ cur.take (l.length * k) = rows f l

/-- Among one's own blocks stand some of this shape, in front of R. -/
def Has (S : Blks → Prop) (w0 w : World) (R : Blks) : Prop := ∃ X, S X ∧ Own w0 w (X ++ R)

section
variable {α : Type} {f : α → List Value} {k : Nat} {l : List α}
theorem rows_length (hf : ∀ x, (f x).length = k) (l : List α) : (rows f l).length = l.length * k := by
  induction l with
  | nil => simp [rows]
  | cons x l ih =>
    simp only [rows, List.flatMap_cons, List.length_append, List.length_cons] at *
    rw [ih, hf, Nat.add_mul]
    omega
theorem rows_append (l m : List α) : rows f (l ++ m) = rows f l ++ rows f m := by simp [rows]
theorem rows_one (x : α) : rows f [x] = f x := by simp [rows]
theorem rows_snoc (l : List α) (x : α) : rows f (l ++ [x]) = rows f l ++ f x := by simp [rows]
theorem rows_get (hf : ∀ x, (f x).length = k) : ∀ (l : List α) (j i : Nat) (x : α), l[j]? = some x → i < k → (rows f l)[j * k + i]? = (f x)[i]?
  | [], j, i, x, h, _ => by simp at h
  | y :: l, 0, i, x, h, hi => by
    simp at h
    subst h
    simp only [rows, List.flatMap_cons, Nat.zero_mul, Nat.zero_add]
    rw [List.getElem?_append_left (by rw [hf]; exact hi)]
  | y :: l, j + 1, i, x, h, hi => by
    have ih := rows_get hf l j i x (by simpa using h) hi
    simp only [rows, List.flatMap_cons]
    rw [List.getElem?_append_right (by rw [hf, Nat.succ_mul]; omega), hf, ← ih]
    simp only [rows]
    congr 1
    rw [Nat.succ_mul]
    omega
theorem rows_ext (hf : ∀ x, (f x).length = k) (hk : 0 < k) (l : List α) (cs : List Value) (hl : cs.length = l.length * k) (h : ∀ j i x, l[j]? = some x → i < k → cs[j * k + i]? = (f x)[i]?) : cs = rows f l := by
  apply List.ext_getElem?
  intro n
  by_cases hn : n < l.length * k
  · have e : n = n / k * k + n % k := (Nat.div_add_mod' n k).symm
    have hj : n / k < l.length := Nat.div_lt_of_lt_mul (by rw [Nat.mul_comm]; exact hn)
    rw [e, h _ _ _ (List.getElem?_eq_getElem hj) (Nat.mod_lt _ hk), rows_get hf _ _ _ _ (List.getElem?_eq_getElem hj) (Nat.mod_lt _ hk)]
  · rw [List.getElem?_eq_none (by omega), List.getElem?_eq_none (by rw [rows_length hf]; omega)]
theorem rows_one_cell (h1 : ∀ x, ∀ u ∈ f x, u.oneCell' = true) (l : List α) : ∀ u ∈ rows f l, u.oneCell' = true := by
  intro u hu
  obtain ⟨x, _, hx⟩ := List.mem_flatMap.1 hu
  exact h1 x u hx
end

section
variable {α : Type} {f : α → List Value} {k : Nat} {l l' : List α} {w w' w0 w1 : World} {a : Option Addr} {e : TypeId} {v v' : Value} {L R Q : Blks}
theorem IsL.keep (h : IsL f w a l) (g : ∀ b off, a = some ⟨b, off, none⟩ → b < w.heap.size → w'.heap[b]? = w.heap[b]?) (hs : w.heap.size ≤ w'.heap.size) : IsL f w' a l := by
  rcases h with h | ⟨b, off, rfl, hb, h⟩
  · exact .inl h
  · exact .inr ⟨b, off, rfl, by omega, fun j u hu => (World.cell?_of_block (g b off rfl hb)).trans (h j u hu)⟩
theorem IsL.grown (h : IsL f w a l) (g : w.grownBy w' none) : IsL f w' a l := h.keep (fun b _ _ hb => g.block b hb (by simp)) g.size
theorem IsL.below (h : IsL f w a l) (g : Below w.heap.size w w') : IsL f w' a l := h.keep (fun b _ _ hb => g.block b hb) g.size
theorem IsL.alloc (h : IsL f w a l) (o : Obj) : IsL f (w.alloc o) a l := h.grown (World.grownBy_alloc w o none)
theorem IsL.drew (h : IsL f w a l) : IsL f w.drew a l := h
theorem IsL.drewN (h : IsL f w a l) (n : Nat) : IsL f (w.drewN n) a l := h
theorem IsL.nil : IsL f w a [] := .inl rfl
theorem IsL.at (h : IsL f w a l) (hf : ∀ x, (f x).length = k) {j : Nat} {x : α} (hj : l[j]? = some x) : ∃ b off, a = some ⟨b, off, none⟩ ∧ b < w.heap.size ∧ ∀ i u, (f x)[i]? = some u → w.cell? ⟨b, off + j * k + i, none⟩ = some u := by
  rcases h with rfl | ⟨b, off, rfl, hb, h⟩
  · simp at hj
  · refine ⟨b, off, rfl, hb, fun i u hu => ?_⟩
    have hi : i < k := by have := (List.getElem?_eq_some_iff.1 hu).1; rw [hf] at this; exact this
    rw [Nat.add_assoc]
    exact h _ _ ((rows_get hf l j i x hj hi).trans hu)
theorem IsL.src (h : IsL f w a l) : (l.length = 0 ∧ rows f l = []) ∨ ∃ ad, a = some ad ∧ ∀ j u, (rows f l)[j]? = some u → w.cell? (ad.add j) = some u := by
  rcases h with rfl | ⟨b, off, rfl, hb, h⟩
  · exact .inl ⟨rfl, rfl⟩
  · exact .inr ⟨_, rfl, fun j u hu => by rw [add_eq]; exact h j u hu⟩
theorem IsL.of_own {base n cap : Nat} (h : w.ownsRow base e k (.slice a n cap) n (rows f l)) (hf : ∀ x, (f x).length = k) (hn : n = l.length) : IsL f w a l := by
  rcases h.2 with ⟨_, h0⟩ | ⟨g, cap2, cur, e, hb, hg, _⟩
  · exact .inl (List.eq_nil_of_length_eq_zero (by omega))
  · injection e with e1 e2 e3
    subst e1
    refine .inr ⟨g, 0, rfl, lt_of_block hg, fun j u hu => ?_⟩
    have hj : j < n * k := by have := (List.getElem?_eq_some_iff.1 hu).1; rw [rows_length hf] at this; rw [hn]; exact this
    rw [Nat.zero_add]
    exact (h.cellAt j hj).trans hu

theorem Own.fresh (h : Own w0 w R) (g : w.grownBy w' none) {q : Nat} {cur : List Value} (hq : w.heap.size ≤ q) (hb : Blk e w' q ⟨cur⟩) : Own w0 w' ((q, e, cur) :: R) := by
  refine ⟨gb_trans h.grow g, ?_, ?_⟩
  · intro x hx
    rcases List.mem_cons.1 hx with rfl | hx
    · exact ⟨Nat.le_trans h.grow.size hq, hb⟩
    · exact ⟨(h.blk x hx).1, (h.blk x hx).2.grown g (by simp)⟩
  · exact List.pairwise_cons.2 ⟨fun x hx => Nat.ne_of_gt (Nat.lt_of_lt_of_le (h.blk x hx).2.lt hq), h.down⟩
/-- The first one was written, whatever it is now. -/
theorem Own.lose {b : Nat} {t : TypeId} {cs : List Value} (h : Own w0 w ((b, t, cs) :: R)) (g : w.grownBy w' (some b)) : Own w0 w' R := by
  have hd := List.pairwise_cons.1 h.down
  refine ⟨gb_over h.grow g (h.base 0 rfl), fun x hx => ⟨(h.blk x (List.mem_cons_of_mem _ hx)).1, (h.blk x (List.mem_cons_of_mem _ hx)).2.grown g ?_⟩, hd.2⟩
  intro e1
  cases e1
  exact hd.1 x hx rfl
theorem Own.mid {b : Nat × TypeId × List Value} : Own w0 w (b :: (L ++ R)) ↔ Own w0 w (L ++ (b :: R)) := ⟨fun h => h.perm List.perm_middle.symm, fun h => h.perm List.perm_middle⟩
theorem Own.comm {A B : Blks} (h : Own w0 w (A ++ (B ++ R))) : Own w0 w (B ++ (A ++ R)) := h.perm (by rw [← List.append_assoc, ← List.append_assoc]; exact List.perm_append_comm.append_right R)

theorem Row.owns (h : Row f k e l v L) (hf : ∀ x, (f x).length = k) (o : Own w0 w (L ++ R)) : w.ownsRow w0.heap.size e k v l.length (rows f l) := by
  refine ⟨rows_length hf l, ?_⟩
  rcases h with ⟨rfl, rfl, rfl⟩ | ⟨g, cap, cur, rfl, rfl, h1, h2, h3, h4⟩
  · exact .inl ⟨rfl, rfl⟩
  · exact .inr ⟨g, cap, ⟨cur⟩, rfl, o.base 0 rfl, o.get 0 rfl, h1, h2, by simpa using h3, by simpa using h4⟩
theorem Row.slice (h : Row f k e l v L) : ∃ a cap, v = .slice a l.length cap := by
  rcases h with ⟨rfl, rfl, rfl⟩ | ⟨g, cap, cur, rfl, rfl, _⟩
  · exact ⟨none, 0, rfl⟩
  · exact ⟨_, cap, rfl⟩
theorem Row.isL (h : Row f k e l v L) (hf : ∀ x, (f x).length = k) (o : Own w0 w (L ++ R)) : ∃ a cap, v = .slice a l.length cap ∧ IsL f w a l := by
  obtain ⟨a, cap, rfl⟩ := h.slice
  exact ⟨a, cap, rfl, IsL.of_own (h.owns hf o) hf rfl⟩
theorem Row.nil : Row f k e ([] : List α) (.slice none 0 0) [] := .inl ⟨rfl, rfl, rfl⟩
theorem Row.of_own {base n : Nat} (o : Own w0 w R) (g : w.grownBy w' none) (h : w'.ownsRow base e k v n (rows f l)) (hb : w.heap.size ≤ base) (hn : n = l.length) : ∃ L, Row f k e l v L ∧ Own w0 w' (L ++ R) := by
  subst hn
  rcases h.2 with ⟨rfl, h0⟩ | ⟨q, cap, cur, rfl, hq, hg, h1, h2, h3, h4⟩
  · exact ⟨[], .inl ⟨List.eq_nil_of_length_eq_zero h0, rfl, rfl⟩, o.grown g⟩
  · exact ⟨[(q, e, cur.toList)], .inr ⟨q, cap, cur.toList, rfl, rfl, h1, h2, by simpa using h3, h4⟩, o.fresh g (Nat.le_trans hb hq) hg⟩
/-- It was appended to. -/
theorem Row.grow {n : Nat} (h : Row f k e l v L) (o : Own w0 w (L ++ R)) (h' : w1.ownsRow w0.heap.size e k v' n (rows f l')) (hn : n = l'.length) (g : w.grownBy w1 v.ownBlock) (hv : v'.ownBlock = v.ownBlock ∨ ∃ q, v'.ownBlock = some q ∧ w.heap.size ≤ q) :
    ∃ L', Row f k e l' v' L' ∧ Own w0 w1 (L' ++ R) := by
  subst hn
  rcases h'.2 with ⟨rfl, h0⟩ | ⟨q, cap, cur, rfl, hq, hg, h1, h2, h3, h4⟩
  · refine ⟨[], .inl ⟨List.eq_nil_of_length_eq_zero h0, rfl, rfl⟩, ?_⟩
    rcases h with ⟨rfl, rfl, rfl⟩ | ⟨g0, cap0, cur0, rfl, rfl, _⟩
    · exact o.grown g
    · exact Own.lose o g
  · refine ⟨[(q, e, cur.toList)], .inr ⟨q, cap, cur.toList, rfl, rfl, h1, h2, by simpa using h3, h4⟩, ?_⟩
    rcases h with ⟨rfl, rfl, rfl⟩ | ⟨g0, cap0, cur0, rfl, rfl, _⟩
    · rcases hv with hv | ⟨q', hv, hq'⟩
      · simp [Value.ownBlock] at hv
      · simp only [Value.ownBlock, Option.some.injEq] at hv
        subst hv
        exact Own.fresh o g hq' hg
    · rcases hv with hv | ⟨q', hv, hq'⟩
      · simp only [Value.ownBlock, Option.some.injEq] at hv
        subst hv
        exact o.change 0 rfl g hg
      · simp only [Value.ownBlock, Option.some.injEq] at hv
        subst hv
        have o2 := Own.lose o g
        refine ⟨o2.grow, ?_, ?_⟩
        · intro x hx
          rcases List.mem_cons.1 hx with rfl | hx
          · exact ⟨hq, hg⟩
          · exact o2.blk x hx
        · exact List.pairwise_cons.2 ⟨fun x hx => Nat.ne_of_gt (Nat.lt_of_lt_of_le (o.blk x (List.mem_cons_of_mem _ hx)).2.lt hq'), o2.down⟩
/-- One thing was appended. -/
theorem Row.snoc {x : α} {w2 : World} {g' c' : Nat} (h : Row f k e l v L) (o : Own w0 w (L ++ R)) (hw : w.grownBy w2 none) (ho : w1.ownsRow w0.heap.size e k (.slice (some ⟨g', 0, none⟩) (l.length + 1) c') (l.length + 1) (rows f l ++ f x)) (hg : w2.grownBy w1 v.ownBlock) (hv : some g' = v.ownBlock ∨ w2.heap.size ≤ g') :
    ∃ L', Row f k e (l ++ [x]) (.slice (some ⟨g', 0, none⟩) (l.length + 1) c') L' ∧ Own w0 w1 (L' ++ R) :=
  Row.grow h (o.grown hw) (by rw [rows_snoc]; exact ho) (by simp) hg (hv.elim .inl (fun h => .inr ⟨g', rfl, h⟩))
/-- Its cells were written. -/
theorem Row.write {g cap : Nat} {cur' : List Value} (h : Row f k e l (.slice (some ⟨g, 0, none⟩) l.length cap) L) (o : Own w0 w (L ++ R)) (hg : w.grownBy w1 (some g)) (hb : Blk e w1 g ⟨cur'⟩) (hl : cur'.length = cap * k) (hn : l'.length ≤ cap) (ht : cur'.take (l'.length * k) = rows f l') :
    ∃ L', Row f k e l' (.slice (some ⟨g, 0, none⟩) l'.length cap) L' ∧ Own w0 w1 (L' ++ R) := by
  rcases h with ⟨rfl, h, rfl⟩ | ⟨g0, cap0, cur0, h, rfl, h1, h2, h3, h4⟩
  · cases h
  · injection h with e1 e2 e3
    injection e1 with e1
    injection e1 with e1
    subst e1; subst e3
    exact ⟨[(g, e, cur')], .inr ⟨g, cap, cur', rfl, rfl, hn, h2, hl, ht⟩, o.change 0 rfl hg hb⟩
theorem Row.open {g cap : Nat} (h : Row f k e l (.slice (some ⟨g, 0, none⟩) l.length cap) L) (o : Own w0 w (L ++ R)) : ∃ cur, Blk e w g ⟨cur⟩ ∧ cur.length = cap * k ∧ l.length ≤ cap ∧ cap ≤ maxLen ∧ cur.take (l.length * k) = rows f l := by
  rcases h with ⟨rfl, h, rfl⟩ | ⟨g0, cap0, cur0, h, rfl, h1, h2, h3, h4⟩
  · cases h
  · injection h with e1 e2 e3
    injection e1 with e1
    injection e1 with e1
    subst e1; subst e3
    exact ⟨cur0, o.get 0 rfl, h3, h1, h2, h4⟩
theorem Row.some (h : Row f k e l v L) (hn : 0 < l.length) : ∃ g cap, v = .slice (some ⟨g, 0, none⟩) l.length cap := by
  rcases h with ⟨rfl, rfl, rfl⟩ | ⟨g, cap, cur, rfl, _⟩
  · simp at hn
  · exact ⟨g, cap, rfl⟩
end

section
variable {S S' : Blks → Prop} {w0 w w' : World} {R M : Blks}
theorem Has.own (h : Has S w0 w R) : Own w0 w R := by
  obtain ⟨X, _, o⟩ := h
  exact o.drop (List.sublist_append_right _ _)
theorem Has.grown (h : Has S w0 w R) (g : w.grownBy w' none) : Has S w0 w' R := by
  obtain ⟨X, hX, o⟩ := h
  exact ⟨X, hX, o.grown g⟩
theorem Has.drew (h : Has S w0 w R) : Has S w0 w.drew R := by
  obtain ⟨X, hX, o⟩ := h
  exact ⟨X, hX, o.drew⟩
theorem Has.drewN (h : Has S w0 w R) (n : Nat) : Has S w0 (w.drewN n) R := by
  obtain ⟨X, hX, o⟩ := h
  exact ⟨X, hX, o.drewN n⟩
theorem Has.skip (h : Has S w0 w R) (o : Obj) : Has S w0 (w.alloc o) R := h.grown (World.grownBy_alloc w o none)
theorem Has.alloc (h : Has S w0 w R) (t : TypeId) (cs : List Value) : Has S w0 (w.alloc (.cells ⟨cs⟩ t)) ((w.heap.size, t, cs) :: R) := by
  obtain ⟨X, hX, o⟩ := h
  exact ⟨X, hX, Own.mid.1 (o.alloc t cs)⟩
theorem Has.change (h : Has S w0 w R) (k : Nat) {c : Nat} {t : TypeId} {cs ds : List Value} (hk : R[k]? = some (c, t, cs)) (g : w.grownBy w' (some c)) (hb : Blk t w' c ⟨ds⟩) : Has S w0 w' (R.set k (c, t, ds)) := by
  obtain ⟨X, hX, o⟩ := h
  refine ⟨X, hX, ?_⟩
  have := o.change (X.length + k) (by rw [List.getElem?_append_right (by omega)]; simpa using hk) g hb
  rw [List.set_append, if_neg (by omega)] at this
  simpa using this
theorem Has.set (h : Has S w0 w R) (k j : Nat) (u : Value) {c : Nat} {t : TypeId} {cs : List Value} (hk : R[k]? = some (c, t, cs)) : Has S w0 (w.setCell ⟨c, j, none⟩ u) (R.set k (c, t, cs.set j u)) :=
  h.change k hk (gb_setB (gb_refl _ _) u) (by simpa using (h.own.get k hk).set j u)
theorem Has.drop (h : Has S w0 w R) (hs : List.Sublist M R) : Has S w0 w M := by
  obtain ⟨X, hX, o⟩ := h
  exact ⟨X, hX, o.drop (List.Sublist.append (List.Sublist.refl _) hs)⟩
theorem Has.perm (h : Has S w0 w R) (hp : List.Perm R M) : Has S w0 w M := by
  obtain ⟨X, hX, o⟩ := h
  exact ⟨X, hX, o.perm (hp.append_left X)⟩
theorem Has.below (h : Has S w0 w R) : Below w0.heap.size w0 w := h.own.below
theorem Has.grow (h : Has S w0 w R) : w0.grownBy w none := h.own.grow
theorem Has.size (h : Has S w0 w R) : w0.heap.size ≤ w.heap.size := h.own.size
theorem Has.old (h : Has S w0 w R) {p : Addr} {v : Value} (hc : w0.cell? p = some v) : w.cell? p = some v := h.own.old hc
theorem Has.get (h : Has S w0 w R) (k : Nat) {c : Nat} {t : TypeId} {cs : List Value} (hk : R[k]? = some (c, t, cs)) : Blk t w c ⟨cs⟩ := h.own.get k hk
theorem Has.lt (h : Has S w0 w R) (k : Nat) {c : Nat} {t : TypeId} {cs : List Value} (hk : R[k]? = some (c, t, cs)) : c < w.heap.size := h.own.lt k hk
theorem Has.cell (h : Has S w0 w R) (k j : Nat) {c : Nat} {t : TypeId} {cs : List Value} {v : Value} (hk : R[k]? = some (c, t, cs)) (hv : cs[j]? = some v) : w.cell? ⟨c, j, none⟩ = some v := h.own.cell k j hk hv
theorem Has.free (h : Has S w0 w R) (k j : Nat) {c : Nat} {t : TypeId} {cs : List Value} (hk : R[k]? = some (c, t, cs)) : w.frozen? ⟨c, j, none⟩ = false := h.own.free k j hk
theorem Has.ne' (h : Has S w0 w R) (i k : Nat) {c d : Nat} {t u : TypeId} {cs ds : List Value} (hi : R[i]? = some (c, t, cs)) (hk : R[k]? = some (d, u, ds)) (hik : i ≠ k) : c ≠ d ∧ d ≠ c := h.own.ne' i k hi hk hik
/-- One shape behind another. -/
def Both (S S' : Blks → Prop) : Blks → Prop := fun X => ∃ A B, S A ∧ S' B ∧ X = A ++ B
theorem Has.left (h : Has (Both S S') w0 w R) : ∃ B, S' B ∧ Has S w0 w (B ++ R) := by
  obtain ⟨_, ⟨A, B, hA, hB, rfl⟩, o⟩ := h
  exact ⟨B, hB, A, hA, by simpa using o⟩
theorem Has.right (h : Has (Both S S') w0 w R) : ∃ A, S A ∧ Has S' w0 w (A ++ R) := by
  obtain ⟨_, ⟨A, B, hA, hB, rfl⟩, o⟩ := h
  exact ⟨A, hA, B, hB, Own.comm (by simpa using o)⟩
theorem Has.ofLeft {B : Blks} (hB : S' B) (h : Has S w0 w (B ++ R)) : Has (Both S S') w0 w R := by
  obtain ⟨A, hA, o⟩ := h
  exact ⟨A ++ B, ⟨A, B, hA, hB, rfl⟩, by simpa using o⟩
theorem Has.ofRight {A : Blks} (hA : S A) (h : Has S' w0 w (A ++ R)) : Has (Both S S') w0 w R := by
  obtain ⟨B, hB, o⟩ := h
  exact ⟨A ++ B, ⟨A, B, hA, hB, rfl⟩, by have := Own.comm o; simpa using this⟩
/-- Two of them: the other one in front. -/
theorem Has.turn (h : Has S w0 w (M ++ R)) (hM : S' M) : ∃ X, S X ∧ Has S' w0 w (X ++ R) := by
  obtain ⟨X, hX, o⟩ := h
  exact ⟨X, hX, M, hM, o.comm⟩
end
end Go.Proofs.Ytdohepenmejcaaa.base
