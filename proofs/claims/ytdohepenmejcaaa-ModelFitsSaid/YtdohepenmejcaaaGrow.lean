/- A struct of a slice and a number, behind a pointer, whose slice is appended to: plain facts on memory, of no program. -/
import Derived.WalkKit
import Derived.ArgAppend
import Derived.Deep.RegionLaw
import Derived.Test.YtdohepenmejcaaaBase
namespace Go.Proofs.Ytdohepenmejcaaa.base
open Go Go.RowKit

section
variable {P : Program}

/-- append of something onto a slice of one's own: the row is the old one, or in a new block. -/
theorem run_append_at (w : World) (base : Nat) (t ty e : TypeId) (i : TypeInfo) (z : Value) (size bytes : Nat) (ht : P.underlying t = some (.slice e)) (hi : P.info? e = some i) (hz : i.zero = some z)
    (hsize : i.size = size) (hby : i.bytes = bytes) (hzs : z.cells.size = size) (hsz : 0 < size)
    (v : Value) (n : Nat) (xs : List Value) (hown : w.ownsRow base e size v n xs)
    (a : Addr) (m c : Nat) (news : List Value) (hl : news.length = m * size) (hnews : ∀ j u, news[j]? = some u → w.cell? (a.add j) = some u) (h1 : ∀ u ∈ news, u.oneCell' = true)
    (h63 : n + m ≤ maxLen) (hbytes : (n + m) * bytes ≤ 140737488355328) (hbase : base ≤ w.heap.size) :
    ∃ v' w', (Builtin.append_ #[t, t] ty #[v, .slice (some a) m c]).run P w = .ok v' w' ∧ w'.ownsRow base e size v' (n + m) (xs ++ news) ∧ w.grownBy w' v.ownBlock ∧
      (v'.ownBlock = v.ownBlock ∨ ∃ k, v'.ownBlock = some k ∧ w.heap.size ≤ k) := by
  obtain ⟨v', w', hr, ho, hg, _⟩ := run_append_own (P := P) w base t ty e i z size bytes ht hi hz hsize hby hzs hsz v n xs hown a m c news hl hnews h1 h63 hbytes hbase
  refine ⟨v', w', hr, ho, hg, ?_⟩
  have fresh : ∀ v2 w2, (Builtin.append_ #[t, t] ty #[v, .slice (some a) m c]).run P w = .ok v2 w2 → w2.ownsRow w.heap.size e size v2 (n + m) (xs ++ news) → v'.ownBlock = none ∨ ∃ k, v'.ownBlock = some k ∧ w.heap.size ≤ k := by
    intro v2 w2 h2 o2
    rw [hr] at h2
    obtain ⟨rfl, rfl⟩ : v' = v2 ∧ w' = w2 := by injection h2 with h3 h4; exact ⟨h3, h4⟩
    cases hv : v'.ownBlock with
    | none => exact .inl rfl
    | some k => exact .inr ⟨k, rfl, (o2.lt k hv).1⟩
  rcases hown.2 with ⟨rfl, rfl⟩ | ⟨g, cap, cur, rfl, hbg, hgg, hnc, hcm, hcs, htake⟩
  · have hx : xs = [] := List.eq_nil_of_length_eq_zero (by simpa using hown.1)
    subst hx
    obtain ⟨v2, w2, h2, o2, _⟩ := run_append_own (P := P) w w.heap.size t ty e i z size bytes ht hi hz hsize hby hzs hsz (.slice none 0 0) 0 [] (World.ownsRow_nil w _ e size) a m c news hl hnews h1 h63 hbytes (Nat.le_refl _)
    rcases fresh v2 w2 h2 o2 with h | h
    · exact .inl h
    · exact .inr h
  · by_cases hroom : n + m ≤ cap
    · subst hsize
      have hfit : n * i.size + news.length ≤ cur.size := by rw [hl, hcs, ← Nat.add_mul]; exact Nat.mul_le_mul_right _ hroom
      have h2 := run_append_room (P := P) w t ty e i ht hi g n cap cur hgg a m c news hl hnews h1 hroom hfit
      rw [hr] at h2
      injection h2 with h3 h4
      exact .inl (by rw [h3]; rfl)
    · have holds : ∀ j u, xs[j]? = some u → w.cell? ((⟨g, 0, none⟩ : Addr).add j) = some u := hown.cells (g := g) rfl
      obtain ⟨v2, w2, h2, o2, _⟩ := run_append_arg_grows (P := P) w t ty e i z size bytes ht hi hz hsize hby hzs hsz ⟨g, 0, none⟩ n cap xs hown.1 holds a m c news hl hnews (by omega) h63 hbytes
      rcases fresh v2 w2 h2 o2 with h | h
      · exfalso
        rcases o2.2 with ⟨rfl, h0⟩ | ⟨g2, cap2, cur2, rfl, _⟩
        · omega
        · rw [hr] at h2
          injection h2 with h3 h4
          rw [h3] at h
          simp [Value.ownBlock] at h
      · exact .inr h

theorem wpList_append_at (w : World) {ops : Array Oper} {rest : List Oper} {o : Oper} {a : Act} {Q : Exit → Act → World → Prop}
    (hgd : o.guard = none) (s x : Operand) (t : TypeId) (hop : o.op = Op.call { callee := Callee.builtin Builtin.append, args := #[s, x], argTypes := #[t, t] })
    (base : Nat) (e : TypeId) (i : TypeInfo) (z : Value) (size bytes : Nat) (h1 : P.underlying t = some (.slice e)) (h2 : P.info? e = some i) (h3 : i.zero = some z) (h4 : i.size = size) (h5 : i.bytes = bytes) (h6 : z.cells.size = size) (h7 : 0 < size)
    (v : Value) (n : Nat) (xs : List Value) (hs : a.eval s = v) (hown : w.ownsRow base e size v n xs)
    (ad : Addr) (m c : Nat) (news : List Value) (hx : a.eval x = .slice (some ad) m c) (hl : news.length = m * size) (hnews : ∀ j u, news[j]? = some u → w.cell? (ad.add j) = some u) (h1c : ∀ u ∈ news, u.oneCell' = true)
    (h63 : n + m ≤ maxLen) (hbytes : (n + m) * bytes ≤ 140737488355328) (hbase : base ≤ w.heap.size) (hm : 0 < m)
    (hK : ∀ g cap w', w'.ownsRow base e size (.slice (some ⟨g, 0, none⟩) (n + m) cap) (n + m) (xs ++ news) → w.grownBy w' v.ownBlock → (some g = v.ownBlock ∨ w.heap.size ≤ g) → wpList P ops Q rest (a.put o.dst (.slice (some ⟨g, 0, none⟩) (n + m) cap)) w') :
    wpList P ops Q (o :: rest) a w := by
  refine wpList_plain hgd fun K hK' => ?_
  obtain ⟨v', w', hrun, r1, r2, r3⟩ := run_append_at (P := P) w base t o.type e i z size bytes h1 h2 h3 h4 h5 h6 h7 v n xs hown ad m c news hl hnews h1c h63 hbytes hbase
  have r0 := r1
  rcases r0.2 with ⟨_, h0⟩ | ⟨g, cap, _, rfl, _⟩
  · omega
  unfold Oper.wp
  simp [execOp, hop, resolve, invoke, builtin, hs, hx, hrun, Result.andThen]
  exact hK' _ _ (hK g cap w' r1 r2 (by
    rcases r3 with h | ⟨k, h, hk⟩
    · exact .inl h
    · cases h; exact .inr hk))

/-- The same as one step of a region that draws its order. -/
theorem step_append_at {ops : Array Oper} {o : Oper} {a : Act} {w : World} {K : Act → World → Prop} {Q : Exit → Act → World → Prop} {E : Prop}
    (hg : o.guard = none) (s x : Operand) (t : TypeId) (hop : o.op = Op.call { callee := Callee.builtin Builtin.append, args := #[s, x], argTypes := #[t, t] })
    (base : Nat) (e : TypeId) (i : TypeInfo) (z : Value) (size bytes : Nat) (h1 : P.underlying t = some (.slice e)) (h2 : P.info? e = some i) (h3 : i.zero = some z) (h4 : i.size = size) (h5 : i.bytes = bytes) (h6 : z.cells.size = size) (h7 : 0 < size)
    (v : Value) (n : Nat) (xs : List Value) (hs : a.eval s = v) (hown : w.ownsRow base e size v n xs)
    (ad : Addr) (m c : Nat) (news : List Value) (hx : a.eval x = .slice (some ad) m c) (hl : news.length = m * size) (hnews : ∀ j u, news[j]? = some u → w.cell? (ad.add j) = some u) (h1c : ∀ u ∈ news, u.oneCell' = true)
    (h63 : n + m ≤ maxLen) (hbytes : (n + m) * bytes ≤ 140737488355328) (hbase : base ≤ w.heap.size) (hm : 0 < m)
    (hK : ∀ g cap w', w'.ownsRow base e size (.slice (some ⟨g, 0, none⟩) (n + m) cap) (n + m) (xs ++ news) → w.grownBy w' v.ownBlock → (some g = v.ownBlock ∨ w.heap.size ≤ g) → K (a.put o.dst (.slice (some ⟨g, 0, none⟩) (n + m) cap)) w') :
    if Region.wanted o (yielded ops a.tmps) = true then Oper.wp P o a w K Q else E := by
  have hw : Region.wanted o (yielded ops a.tmps) = true := by simp [Region.wanted, hg]
  rw [if_pos hw]
  obtain ⟨v', w', hrun, r1, r2, r3⟩ := run_append_at (P := P) w base t o.type e i z size bytes h1 h2 h3 h4 h5 h6 h7 v n xs hown ad m c news hl hnews h1c h63 hbytes hbase
  have r0 := r1
  rcases r0.2 with ⟨_, h0⟩ | ⟨g, cap, _, rfl, _⟩
  · omega
  unfold Oper.wp
  simp [execOp, hop, resolve, invoke, builtin, hs, hx, hrun, Result.andThen]
  exact hK g cap w' r1 r2 (by
    rcases r3 with h | ⟨k, h, hk⟩
    · exact .inl h
    · cases h; exact .inr hk)
end

/-- An empty slice that was written out. -/
theorem ownsRow_empty (w : World) (e : TypeId) (sz : Nat) : (w.alloc (.cells #[] e)).ownsRow w.heap.size e sz (.slice (some ⟨w.heap.size, 0, none⟩) 0 0) 0 [] :=
  ⟨by simp, .inr ⟨w.heap.size, 0, #[], rfl, Nat.le_refl _, heap_alloc_new w _, Nat.le_refl _, by unfold maxLen; omega, by simp, by simp⟩⟩

/-- What isn't of F stands where F is changed, and is not of what F is then. -/
theorem cell_step {F F' : Nat → Prop} {w w' : World} {p : Addr} {v : Value} (s : Step F F' w w') (hc : w.cell? p = some v) (hn : ¬ F p.block) : w'.cell? p = some v ∧ ¬ F' p.block := by
  have hl := World.block_lt_of_cell? w p hc
  refine ⟨(World.cell?_of_block (s.only.block p.block hl hn)).trans hc, fun h => ?_⟩
  rcases s.foot _ h with h1 | h1
  · exact hn h1
  · omega

/-- A row of one's own hangs on its block alone. -/
theorem ownsRow_keep {base : Nat} {e : TypeId} {sz : Nat} {w w' : World} {v : Value} {n : Nat} {xs : List Value} (h : w.ownsRow base e sz v n xs) (hk : ∀ k, v.ownBlock = some k → w'.heap[k]? = w.heap[k]?) : w'.ownsRow base e sz v n xs := by
  refine ⟨h.1, ?_⟩
  rcases h.2 with hn | ⟨g, cap, cur, rfl, h4, h5, rest⟩
  · exact .inl hn
  · exact .inr ⟨g, cap, cur, rfl, h4, (hk g rfl).trans h5, rest⟩
/-- .. which is no map's, and of no struct. -/
theorem ownsRow_type {base : Nat} {e : TypeId} {sz : Nat} {w : World} {v : Value} {n : Nat} {xs : List Value} (h : w.ownsRow base e sz v n xs) {k : Nat} (hk : v.ownBlock = some k) : ∃ cs, w.heap[k]? = some (.cells cs e (0, 0)) := by
  rcases h.2 with ⟨rfl, _⟩ | ⟨g, cap, cur, rfl, _, h5, _⟩
  · simp [Value.ownBlock] at hk
  · simp only [Value.ownBlock, Option.some.injEq] at hk
    subst hk
    exact ⟨cur, h5⟩

/-- A call of a Go function, by its contract, as one step of a region that draws its order. -/
theorem step_call {P : Program} {ops : Array Oper} {o : Oper} {a : Act} {w : World} {K : Act → World → Prop} {Q : Exit → Act → World → Prop} {E : Prop}
    (hg : o.guard = none) (f : FuncId) (vals : Array Value) (hx : (execOp a.eval o).run P w = .ok (.enter f vals) w) {R : Ending → World → Prop} (hC : Calls P f vals w R)
    (hr : ∀ e w', R e w' → ∃ v, e = .returned v ∧ K (a.put o.dst v) w') : if Region.wanted o (yielded ops a.tmps) = true then Oper.wp P o a w K Q else E := by
  have hw : Region.wanted o (yielded ops a.tmps) = true := by simp [Region.wanted, hg]
  rw [if_pos hw]
  unfold Oper.wp
  rw [hx, Oper.upon_enter]
  refine hC.mono ?_
  intro e w' h
  obtain ⟨v, rfl, hK⟩ := hr e w' h
  exact hK

theorem new_cells (w : World) (l : List Value) (e : TypeId) : ∀ (j : Nat) (u : Value), l[j]? = some u → (w.alloc (.cells l.toArray e)).cell? ((⟨w.heap.size, 0, none⟩ : Addr).add j) = some u := by
  intro j u hj
  have hadd : (⟨w.heap.size, 0, none⟩ : Addr).add j = ⟨w.heap.size, j, none⟩ := by unfold Addr.add; split <;> simp_all
  rw [hadd, cell_of_row _ _ _ _ _ _ (heap_alloc_new w _)]
  simpa using hj

/-- Block b holds just these cells, is of type t, and may be written. -/
def Blk (t : TypeId) (w : World) (b : Nat) (cs : Array Value) : Prop := w.heap[b]? = some (.cells cs t (0, 0))

/-- Block b is a struct (of type t), and one field of it, with the fields pre ahead of it and post behind, is a slice that owns the cells xs, of n elements of type e, sz cells each, in the block r (none: it is nil); all from block base on. -/
def Fld (t e : TypeId) (sz base : Nat) (w : World) (b : Nat) (pre post : List Value) (n : Nat) (xs : List Value) (r : Option Nat) : Prop :=
  base ≤ b ∧ r ≠ some b ∧ ∃ v, Blk t w b ⟨pre ++ v :: post⟩ ∧ w.ownsRow base e sz v n xs ∧ v.ownBlock = r

/-- .. a struct of a slice and a number. -/
abbrev Arn (t e : TypeId) (sz base : Nat) (w : World) (b : Nat) (room : Int) (n : Nat) (xs : List Value) (r : Option Nat) : Prop := Fld t e sz base w b [] [.int .i64 room] n xs r

/-- Only block b, the row r and new blocks were written, and the row is now r', which is r or new. -/
structure Chg (b : Nat) (r r' : Option Nat) (w w' : World) : Prop where
  os : w'.os = w.os
  tape : w'.tape = w.tape
  output : w'.output = w.output
  size : w.heap.size ≤ w'.heap.size
  block : ∀ k, k < w.heap.size → k ≠ b → some k ≠ r → w'.heap[k]? = w.heap[k]?
  row : r' = r ∨ ∃ k, r' = some k ∧ w.heap.size ≤ k

theorem bl_drewN {B : Nat} {a w : World} (h : Below B a w) (k : Nat) : Below B a (w.drewN k) := ⟨h.os, h.tape, h.output, h.size, h.block⟩

section
variable {t : TypeId} {w w' : World} {b : Nat} {cs : Array Value}
theorem Blk.lt (h : Blk t w b cs) : b < w.heap.size := lt_of_block h
theorem Blk.cell (h : Blk t w b cs) (j : Nat) : w.cell? ⟨b, j, none⟩ = cs[j]? := cell_of_row w b j cs t (0, 0) h
theorem Blk.free (h : Blk t w b cs) (j : Nat) : w.frozen? ⟨b, j, none⟩ = false := by unfold Blk at h; simp [World.frozen?, h]
theorem Blk.set (h : Blk t w b cs) (j : Nat) (u : Value) : Blk t (w.setCell ⟨b, j, none⟩ u) b (cs.setIfInBounds j u) := by
  have hl := h.lt
  unfold Blk at h ⊢
  have h' : w.heap[b] = .cells cs t (0, 0) := by simpa [Array.getElem?_eq_getElem hl] using h
  show (w.heap.modify b _)[b]? = _
  rw [Array.getElem?_eq_getElem (by simpa using hl), Array.getElem_modify_self, h']
  rfl
theorem Blk.keep (h : Blk t w b cs) (k : w'.heap[b]? = w.heap[b]?) : Blk t w' b cs := k.trans h
theorem Blk.alloc (h : Blk t w b cs) (o : Obj) : Blk t (w.alloc o) b cs := h.keep (Below.heap_alloc w o b h.lt)
theorem Blk.other (h : Blk t w b cs) {p : Addr} (hp : b ≠ p.block) (u : Value) : Blk t (w.setCell p u) b cs := h.keep (Below.heap_setCell w p u b hp)
theorem Blk.drew (h : Blk t w b cs) : Blk t w.drew b cs := h
theorem Blk.drewN (h : Blk t w b cs) (k : Nat) : Blk t (w.drewN k) b cs := h
theorem Blk.grown (h : Blk t w b cs) {r : Option Nat} (hg : w.grownBy w' r) (hr : some b ≠ r) : Blk t w' b cs := h.keep (hg.block b h.lt hr)
theorem Blk.below (h : Blk t w b cs) {B : Nat} (hg : Below B w w') (hr : b < B) : Blk t w' b cs := h.keep (hg.block b hr)
theorem Blk.chg (h : Blk t w b cs) {b2 : Nat} {r r' : Option Nat} (c : Chg b2 r r' w w') (h1 : b ≠ b2) (h2 : some b ≠ r) : Blk t w' b cs := h.keep (c.block b h.lt h1 h2)
theorem Blk.made (w : World) (t : TypeId) (cs : Array Value) : Blk t (w.alloc (.cells cs t)) w.heap.size cs := heap_alloc_new w _
end

section
variable {t e t2 e2 : TypeId} {sz sz2 base base2 : Nat} {w w' : World} {b b2 : Nat} {room : Int} {pre post pre2 post2 : List Value} {n n2 : Nat} {xs xs2 : List Value} {r r' r2 : Option Nat}

theorem Fld.base_le (h : Fld t e sz base w b pre post n xs r) : base ≤ b := h.1
theorem Fld.lt (h : Fld t e sz base w b pre post n xs r) : b < w.heap.size := by
  obtain ⟨_, _, v, hb, _⟩ := h
  exact hb.lt
theorem Fld.len (h : Fld t e sz base w b pre post n xs r) : xs.length = n * sz := by
  obtain ⟨_, _, v, _, ho, _⟩ := h
  exact ho.1
theorem Fld.row_lt (h : Fld t e sz base w b pre post n xs r) : ∀ k, r = some k → base ≤ k ∧ k < w.heap.size := by
  obtain ⟨_, _, v, _, ho, rfl⟩ := h
  exact ho.lt
theorem Fld.row_ne (h : Fld t e sz base w b pre post n xs r) : some b ≠ r := fun e => h.2.1 e.symm
/-- The row's block has another element type than a block of another type. -/
theorem Fld.row_type (h : Fld t e sz base w b pre post n xs r) {cs : Array Value} {k : Nat} (hk : Blk t2 w k cs) (hne : t2 ≠ e) : some k ≠ r := by
  obtain ⟨_, _, v, _, ho, rfl⟩ := h
  rcases ho.2 with ⟨rfl, _⟩ | ⟨g, cap, cur, rfl, _, hg, _⟩
  · simp [Value.ownBlock]
  · simp only [Value.ownBlock]
    intro e1
    cases e1
    unfold Blk at hk
    rw [hg] at hk
    simp at hk
    exact hne hk.2.symm

/-- What the walk is told of it. -/
theorem Fld.open (h : Fld t e sz base w b pre post n xs r) : ∃ ao cap, Blk t w b ⟨pre ++ .slice ao n cap :: post⟩ ∧ w.ownsRow base e sz (.slice ao n cap) n xs ∧ (Value.slice ao n cap).ownBlock = r := by
  obtain ⟨_, _, v, hb, ho, hr⟩ := h
  obtain ⟨ao, cap, rfl⟩ : ∃ ao cap, v = .slice ao n cap := by
    rcases ho.2 with ⟨rfl, rfl⟩ | ⟨g, cap, cur, rfl, _⟩
    · exact ⟨none, 0, rfl⟩
    · exact ⟨_, cap, rfl⟩
  exact ⟨ao, cap, hb, ho, hr⟩

theorem Arn.open (h : Arn t e sz base w b room n xs r) : ∃ ao cap, w.cell? ⟨b, 0, none⟩ = some (.slice ao n cap) ∧ w.cell? ⟨b, 1, none⟩ = some (.int .i64 room) ∧ w.frozen? ⟨b, 0, none⟩ = false ∧
    w.ownsRow base e sz (.slice ao n cap) n xs ∧ (Value.slice ao n cap).ownBlock = r := by
  obtain ⟨ao, cap, hb, ho, hr⟩ := Fld.open h
  exact ⟨ao, cap, hb.cell 0, hb.cell 1, hb.free 0, ho, hr⟩

/-- Its elements' cells, where it has one. -/
theorem Fld.elem (h : Fld t e sz base w b pre post n xs r) (hn : 0 < n) : ∃ g cap, Blk t w b ⟨pre ++ .slice (some ⟨g, 0, none⟩) n cap :: post⟩ ∧ ∀ j, j < n * sz → w.cell? ⟨g, j, none⟩ = xs[j]? := by
  obtain ⟨_, _, v, hb, ho, hr⟩ := h
  rcases ho.2 with ⟨rfl, rfl⟩ | ⟨g, cap, cur, rfl, _⟩
  · omega
  · exact ⟨g, cap, hb, fun j hj => ho.cellAt j hj⟩
theorem Arn.elem (h : Arn t e sz base w b room n xs r) (hn : 0 < n) : ∃ g cap, w.cell? ⟨b, 0, none⟩ = some (.slice (some ⟨g, 0, none⟩) n cap) ∧ ∀ j, j < n * sz → w.cell? ⟨g, j, none⟩ = xs[j]? := by
  obtain ⟨g, cap, hb, hc⟩ := Fld.elem h hn
  exact ⟨g, cap, hb.cell 0, hc⟩

theorem Fld.keep (h : Fld t e sz base w b pre post n xs r) (hb : w'.heap[b]? = w.heap[b]?) (hr : ∀ k, r = some k → w'.heap[k]? = w.heap[k]?) : Fld t e sz base w' b pre post n xs r := by
  obtain ⟨h1, h2, v, h3, ho, rfl⟩ := h
  refine ⟨h1, h2, v, h3.keep hb, ⟨ho.1, ?_⟩, rfl⟩
  rcases ho.2 with hn | ⟨g, cap, cur, rfl, h4, h5, rest⟩
  · exact .inl hn
  · exact .inr ⟨g, cap, cur, rfl, h4, (hr g rfl).trans h5, rest⟩
theorem Fld.alloc (h : Fld t e sz base w b pre post n xs r) (o : Obj) : Fld t e sz base (w.alloc o) b pre post n xs r :=
  h.keep (Below.heap_alloc w o b h.lt) (fun k hk => Below.heap_alloc w o k (h.row_lt k hk).2)
theorem Fld.drew (h : Fld t e sz base w b pre post n xs r) : Fld t e sz base w.drew b pre post n xs r := h
theorem Fld.drewN (h : Fld t e sz base w b pre post n xs r) (k : Nat) : Fld t e sz base (w.drewN k) b pre post n xs r := h
theorem Fld.grown (h : Fld t e sz base w b pre post n xs r) (g : w.grownBy w' none) : Fld t e sz base w' b pre post n xs r :=
  h.keep (g.block b h.lt (by simp)) (fun k hk => g.block k (h.row_lt k hk).2 (by simp))
theorem Fld.grownRow (h : Fld t e sz base w b pre post n xs r) (g : w.grownBy w' r2) (h1 : some b ≠ r2) (h2 : r = none ∨ r ≠ r2) : Fld t e sz base w' b pre post n xs r :=
  h.keep (g.block b h.lt h1) (fun k hk => g.block k (h.row_lt k hk).2 (by
    rcases h2 with h2 | h2
    · rw [h2] at hk; cases hk
    · rw [← hk]; exact h2))
theorem Fld.other (h : Fld t e sz base w b pre post n xs r) {p : Addr} (hp : b ≠ p.block) (hr : r ≠ some p.block) (u : Value) : Fld t e sz base (w.setCell p u) b pre post n xs r :=
  h.keep (Below.heap_setCell w p u b hp) (fun k hk => Below.heap_setCell w p u k (fun e => hr (by rw [hk, e])))

/-- A new one. -/
theorem Fld.made (w : World) (t e : TypeId) (sz : Nat) (hb : base ≤ w.heap.size) (pre post : List Value) : Fld t e sz base (w.alloc (.cells ⟨pre ++ .slice none 0 0 :: post⟩ t)) w.heap.size pre post 0 [] none :=
  ⟨hb, by simp, .slice none 0 0, heap_alloc_new w _, World.ownsRow_nil _ _ _ _, rfl⟩
theorem Arn.made (w : World) (t e : TypeId) (sz : Nat) (hb : base ≤ w.heap.size) (room : Int) : Arn t e sz base (w.alloc (.cells #[.slice none 0 0, .int .i64 room] t)) w.heap.size room 0 [] none :=
  Fld.made w t e sz hb [] [.int .i64 room]

/-- A field beside the slice is stored. -/
theorem Fld.setPost (h : Fld t e sz base w b pre post n xs r) (j : Nat) (u : Value) : Fld t e sz base (w.setCell ⟨b, pre.length + 1 + j, none⟩ u) b pre (post.set j u) n xs r := by
  obtain ⟨h1, h2, v, h3, ho, rfl⟩ := h
  refine ⟨h1, h2, v, ?_, ownsRow_setCell_other ho h2 _, rfl⟩
  have := h3.set (pre.length + 1 + j) u
  simpa [List.set_append, List.set_cons_succ, show ¬ pre.length + 1 + j < pre.length by omega, show pre.length + 1 + j - pre.length = j + 1 by omega] using this

theorem Chg.below {B : Nat} (h : Chg b r r' w w') {w0 : World} (k : Below B w0 w) (hs : B ≤ w.heap.size) (hb : B ≤ b) (hr : ∀ k, r = some k → B ≤ k) : Below B w0 w' :=
  k.trans ⟨h.os, h.tape, h.output, h.size, fun i hi => h.block i (by omega) (by omega) (fun e => by have := hr i e.symm; omega)⟩

/-- Behind a put into one of its own, where base is below all. -/
theorem Chg.bl {B : Nat} (h : Chg b r r' w w') {w0 : World} (k : Below B w0 w) (hs : B ≤ w.heap.size) (a : Fld t e sz B w b pre post n xs r) : Below B w0 w' :=
  h.below k hs a.base_le (fun i hi => (a.row_lt i hi).1)

/-- Another block, neither the struct nor the row, is as it was. -/
theorem Chg.cell (h : Chg b r r' w w') {a : Addr} {v : Value} (hc : w.cell? a = some v) (hb : a.block ≠ b) (hr : some a.block ≠ r) : w'.cell? a = some v :=
  (World.cell?_of_block (h.block a.block (World.block_lt_of_cell? w a hc) hb hr)).trans hc

/-- Two of them that have nothing to do with each other. -/
def Apart (b : Nat) (r : Option Nat) (b2 : Nat) (r2 : Option Nat) : Prop := b ≠ b2 ∧ r ≠ some b2 ∧ r2 ≠ some b ∧ (r = none ∨ r ≠ r2)
theorem Apart.symm (h : Apart b r b2 r2) : Apart b2 r2 b r := ⟨h.1.symm, h.2.2.1, h.2.1, by
  cases r2 with
  | none => exact .inl rfl
  | some k => exact .inr (fun e => by rcases h.2.2.2 with h' | h'; · rw [h'] at e; cases e
                                      · exact h' e.symm)⟩
theorem Apart.step (h : Apart b r b2 r2) (c : Chg b r r' w w') (a2 : Fld t2 e2 sz2 base2 w b2 pre2 post2 n2 xs2 r2) : Apart b r' b2 r2 := by
  rcases c.row with rfl | ⟨k, rfl, hk⟩
  · exact h
  · refine ⟨h.1, fun e => ?_, h.2.2.1, .inr fun e => ?_⟩
    · have := a2.lt; cases e; omega
    · have := (a2.row_lt k e.symm).2; omega
theorem Fld.chg (a2 : Fld t2 e2 sz2 base2 w b2 pre2 post2 n2 xs2 r2) (c : Chg b r r' w w') (h : Apart b r b2 r2) : Fld t2 e2 sz2 base2 w' b2 pre2 post2 n2 xs2 r2 :=
  a2.keep (c.block b2 a2.lt h.1.symm h.2.1.symm) (fun k hk => c.block k (a2.row_lt k hk).2 (fun e => h.2.2.1 (by rw [hk, e])) (fun e => by
    subst hk
    rcases h.2.2.2 with h' | h'
    · rw [h'] at e; cases e
    · exact h' e.symm))

/-- The put, told once: the append has grown the row, and then the slice was stored. -/
theorem Fld.put (h : Fld t e sz base w b pre post n xs r) {w1 : World} {g' c' n' : Nat} {xs' : List Value} (ho : w1.ownsRow base e sz (.slice (some ⟨g', 0, none⟩) n' c') n' xs') (g : w.grownBy w1 r)
    (hv : some g' = r ∨ w.heap.size ≤ g') : Fld t e sz base (w1.setCell ⟨b, pre.length, none⟩ (.slice (some ⟨g', 0, none⟩) n' c')) b pre post n' xs' (some g') ∧ Chg b r (some g') w (w1.setCell ⟨b, pre.length, none⟩ (.slice (some ⟨g', 0, none⟩) n' c')) := by
  have hb0 := h.lt
  obtain ⟨h1, h2, v, h3, _, hr⟩ := h
  have hb1 : Blk t w1 b ⟨pre ++ v :: post⟩ := h3.grown g (fun e => h2 e.symm)
  have hne : (some g') ≠ some b := by
    rcases hv with e | hk
    · rw [e]; exact h2
    · intro e2; cases e2; omega
  refine ⟨⟨h1, hne, _, ?_, ownsRow_setCell_other ho (by simpa [Value.ownBlock] using hne) _, rfl⟩, ⟨g.os, g.tape, g.output, by simpa [World.setCell] using g.size, fun k hk hkb hkr => ?_, ?_⟩⟩
  · have := hb1.set pre.length (.slice (some ⟨g', 0, none⟩) n' c')
    simpa [List.set_append] using this
  · exact (Below.heap_setCell _ _ _ _ hkb).trans (g.block k hk hkr)
  · rcases hv with e | hk
    · exact .inl e
    · exact .inr ⟨g', rfl, hk⟩
theorem Arn.put (h : Arn t e sz base w b room n xs r) {w1 : World} {g' c' n' : Nat} {xs' : List Value} (ho : w1.ownsRow base e sz (.slice (some ⟨g', 0, none⟩) n' c') n' xs') (g : w.grownBy w1 r)
    (hv : some g' = r ∨ w.heap.size ≤ g') : Arn t e sz base (w1.setCell ⟨b, 0, none⟩ (.slice (some ⟨g', 0, none⟩) n' c')) b room n' xs' (some g') ∧ Chg b r (some g') w (w1.setCell ⟨b, 0, none⟩ (.slice (some ⟨g', 0, none⟩) n' c')) :=
  Fld.put h ho g hv

/-- Behind the append, ahead of the store. -/
theorem Fld.mid (h : Fld t e sz base w b pre post n xs r) {v : Value} {o : Obj} {w1 : World} {j : Nat} (c : w.cell? ⟨b, j, none⟩ = some v) (g : (w.alloc o).grownBy w1 r) : w1.cell? ⟨b, j, none⟩ = some v ∧ w1.frozen? ⟨b, j, none⟩ = false := by
  have e1 : w1.heap[b]? = w.heap[b]? := (g.block b (by have := h.lt; simp; omega) (fun e => h.2.1 e.symm)).trans (Below.heap_alloc w o b h.lt)
  obtain ⟨_, _, v0, hb, _⟩ := h
  exact ⟨(World.cell?_of_block (w := w) e1).trans c, Blk.free (hb.keep e1) j⟩

theorem Chg.after (c : Chg b r r' w w') {w0 : World} (g : w0.grownBy w none) : Chg b r r' w0 w' :=
  ⟨c.os.trans g.os, c.tape.trans g.tape, c.output.trans g.output, Nat.le_trans g.size c.size, fun k hk hb hr => (c.block k (Nat.lt_of_lt_of_le hk g.size) hb hr).trans (g.block k hk (by simp)), by
    rcases c.row with h | ⟨k, h, hk⟩
    · exact .inl h
    · exact .inr ⟨k, h, Nat.le_trans g.size hk⟩⟩
theorem Chg.drewN (c : Chg b r r' w w') (k : Nat) : Chg b r r' w (w'.drewN k) := ⟨c.os, c.tape, c.output, c.size, c.block, c.row⟩
theorem Chg.drew (c : Chg b r r' w w') : Chg b r r' w w'.drew := ⟨c.os, c.tape, c.output, c.size, c.block, c.row⟩
end

/-- The first n numbers of a list, as a row of cells. -/
def vals (z : Nat → Int) (n : Nat) : List Value := (List.range n).map fun i => .int .i64 (z i)
theorem vals_succ (z : Nat → Int) (n : Nat) : vals z (n + 1) = vals z n ++ [.int .i64 (z n)] := by simp [vals, List.range_succ]
theorem vals_get (z : Nat → Int) (n i : Nat) (h : i < n) : (vals z n)[i]? = some (.int .i64 (z i)) := by simp [vals, h]
theorem vals_push (z : Nat → Int) (n : Nat) (x : Int) : ∃ y, vals y (n + 1) = vals z n ++ [.int .i64 x] ∧ vals y n = vals z n ∧ y n = x := by
  have h : vals (fun j => if j = n then x else z j) n = vals z n := by
    apply List.map_congr_left
    intro i hi
    have : i < n := by simpa using hi
    simp [show i ≠ n by omega]
  exact ⟨fun j => if j = n then x else z j, by rw [vals_succ, h]; simp, h, by simp⟩

/-- The first n pairs of a list, as a row of cells. -/
def pairs (z : Nat → Nat → Int) (n : Nat) : List Value := (List.range n).flatMap fun i => [.int .i64 (z i 0), .int .i64 (z i 1)]
theorem pairs_succ (z : Nat → Nat → Int) (n : Nat) : pairs z (n + 1) = pairs z n ++ [.int .i64 (z n 0), .int .i64 (z n 1)] := by simp [pairs, List.range_succ]
theorem pairs_length (z : Nat → Nat → Int) (n : Nat) : (pairs z n).length = n * 2 := by
  induction n with
  | zero => rfl
  | succ n ih => rw [pairs_succ, List.length_append, ih]; simp; omega
theorem pairs_get (z : Nat → Nat → Int) (n i : Nat) (h : i < n) : (pairs z n)[i * 2]? = some (.int .i64 (z i 0)) ∧ (pairs z n)[i * 2 + 1]? = some (.int .i64 (z i 1)) := by
  induction n with
  | zero => omega
  | succ n ih =>
    have hl := pairs_length z n
    rw [pairs_succ]
    by_cases hi : i < n
    · rw [List.getElem?_append_left (by omega), List.getElem?_append_left (by omega)]
      exact ih hi
    · obtain rfl : i = n := by omega
      rw [List.getElem?_append_right (by omega), List.getElem?_append_right (by omega), hl]
      simp
end Go.Proofs.Ytdohepenmejcaaa.base
