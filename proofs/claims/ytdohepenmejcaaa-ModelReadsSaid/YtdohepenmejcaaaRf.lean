/- A range over a function whose value has arguments bound (a method's value): the statement, and a round, by what the loop's record says. Of no program. -/
import Derived.RangeFuncNested
import Derived.RangeFuncCalls
import Derived.RangeFuncLeaves
import Derived.Shelf.Abstract
import Derived.WalkKit
import Derived.Test.YtdohepenmejcaaaGrow
import Derived.Maps.OwnIn
namespace Go.Proofs.Ytdohepenmejcaaa.base
open Go Go.RowKit

section
variable {F : Fence} {n : Nat} {P : Program}

/-- The record of the loop, ready, and the block for its rounds' deferred calls. -/
def LoopAt (l D : Nat) (rec : Loop) (W : World) : Prop := W.heap[l]? = some (.loop rec) ∧ W.heap[D]? = some (.deferred (some []))

theorem LoopAt.keep {l D : Nat} {rec : Loop} {W W' : World} (h : LoopAt l D rec W) (h1 : W'.heap[l]? = W.heap[l]?) (h2 : W'.heap[D]? = W.heap[D]?) : LoopAt l D rec W' := ⟨h1.trans h.1, h2.trans h.2⟩

theorem only_put (w : World) (l : Nat) (o : Obj) : Only (fun k => k = l) w (w.putObj l o) := ⟨rfl, rfl, rfl, by simp, fun k _ h => World.putObj_heap_other h⟩

/-- One round that goes on. -/
theorem yield_take {m l D fn : Nat} {tmps : Array Value} {ps : Array Tmp} {assign body : Code} {rec : Loop} {args : Array Value} {W : World} {R : Ending → World → Prop} (hrec : rec = { state := .ready, pending := none, fn, tmps, params := ps, assign, body, defers := D }) (hl : W.heap[l]? = some (.loop rec)) (hps : args.size = ps.size) (hfn : F.fn fn)
    (h : assign.wpIn (F.inRound l) m P (Exit.then (fun a₁ w₁ => w₁.heap[l]? = some (.loop rec) ∧ body.wpIn (F.inRound l) m P (fun ex _ W3 => ex = .normal ∧ W3.heap[l]? = some (.loop { rec with state := .busy }) ∧ R (.returned (.bool true)) (W3.putObj l (.loop rec))) a₁ (w₁.putObj l (.loop { rec with state := .busy }))) (fun _ _ _ => False))
      { tmps := (ps.zip args).foldl (fun t (p, v) => t.setIfInBounds p v) tmps, defers := [] } W) :
    YieldAt F m P l args W R := by
  subst hrec
  refine ⟨fn, _, assign, body, run_yield hl hps, roundIn_of_wpIn hfn (wpIn_mono h ?_)⟩
  intro e a w hq
  cases e with
  | normal =>
    obtain ⟨h1, h2⟩ := hq
    refine ⟨_, run_beginRound h1 rfl, wpIn_mono h2 ?_⟩
    rintro e3 a3 W3 ⟨rfl, h4, h5⟩
    exact ⟨_, _, run_endRound (P := P) none h4, h5⟩
  | ret => exact hq
  | exit id => exact hq
  | goto t => exact hq
  | panic c => exact hq
  | outgrown => exact hq

/-- The statement. -/
theorem wpIn_range_take {g : Operand} {ps : Array Tmp} {assign body : Code} {Q : Exit → Act → World → Prop} {a : Act} {w : World} (hro : F.round = none) (h1 : 1 ≤ n) {gf : Nat} {bnd lb : Array Value} (hg : a.eval g = .func (.func gf) bnd lb) (hFg : F.fn gf) (eg : ∀ args w, (callFunc gf args).run P w = .ok (.enter gf args) w)
    (H : ∀ fn, F.fn fn → ∀ rec : Loop, rec = { state := .ready, pending := none, fn, tmps := a.tmps, params := ps, assign, body, defers := w.heap.size } →
      CallsIn F (n - 1) P gf (bnd ++ #[.func (.yield (w.heap.size + 1)) #[] #[]] ++ lb) ((w.alloc (.deferred (some []))).alloc (.loop rec)) fun e W2 =>
        (∃ v, e = .returned v) ∧ LoopAt (w.heap.size + 1) w.heap.size rec W2 ∧ ∀ o', Q .normal { a with defers := { target := .collected w.heap.size, args := #[] } :: a.defers } (W2.putObj (w.heap.size + 1) o')) :
    (Code.rangeFunc g ps assign body).wpIn F n P Q a w := by
  refine wpIn_rangeFunc ?_
  intro fn hfn
  rw [hro]
  obtain ⟨rec, hrec⟩ : ∃ rec : Loop, rec = { state := .ready, pending := none, fn, tmps := a.tmps, params := ps, assign, body, defers := w.heap.size } := ⟨_, rfl⟩
  have HC := H fn hfn rec hrec
  refine ⟨w.heap.size + 1, [{ target := .collected w.heap.size, args := #[] }], (w.alloc (.deferred (some []))).alloc (.loop rec), { target := .fn (.func gf) lb, args := bnd ++ #[.func (.yield (w.heap.size + 1)) #[] #[]] }, (w.alloc (.deferred (some []))).alloc (.loop rec), gf,
    bnd ++ #[.func (.yield (w.heap.size + 1)) #[] #[]] ++ lb, (w.alloc (.deferred (some []))).alloc (.loop rec), ?_, ?_, ?_, ?_, fun _ => h1, ?_⟩
  · rw [hrec]; exact run_enterLoop_outer _ _ _ _ _
  · simp only [resolve, hg]
    simp [go_sem]
  · intro f' hf'; simp [Target.leads] at hf'; subst hf'; exact hFg
  · simp [invoke, go_sem, eg]
  · refine HC.mono ?_
    rintro e W2 ⟨⟨v, rfl⟩, hL, hQ⟩
    have hE := run_endLoop (P := P) hL.1 (by rw [hrec]; simp)
    have hp : rec.pending = none := by rw [hrec]
    rw [hp] at hE
    exact ⟨none, _, hE, hQ _⟩

/-- append, inside a fence. -/
theorem wpListIn_append_at (w : World) {ops : Array Oper} {rest : List Oper} {o : Oper} {a : Act} {Q : Exit → Act → World → Prop} {nF : Nat}
    (hgd : o.guard = none) (s x : Operand) (t : TypeId) (hop : o.op = Op.call { callee := Callee.builtin Builtin.append, args := #[s, x], argTypes := #[t, t] })
    (base : Nat) (e : TypeId) (i : TypeInfo) (z : Value) (size bytes : Nat) (h1 : P.underlying t = some (.slice e)) (h2 : P.info? e = some i) (h3 : i.zero = some z) (h4 : i.size = size) (h5 : i.bytes = bytes) (h6 : z.cells.size = size) (h7 : 0 < size)
    (v : Value) (n : Nat) (xs : List Value) (hs : a.eval s = v) (hown : w.ownsRow base e size v n xs)
    (ad : Addr) (m c : Nat) (news : List Value) (hx : a.eval x = .slice (some ad) m c) (hl : news.length = m * size) (hnews : ∀ j u, news[j]? = some u → w.cell? (ad.add j) = some u) (h1c : ∀ u ∈ news, u.oneCell' = true)
    (h63 : n + m ≤ maxLen) (hbytes : (n + m) * bytes ≤ 140737488355328) (hbase : base ≤ w.heap.size) (hm : 0 < m)
    (hK : ∀ g cap w', w'.ownsRow base e size (.slice (some ⟨g, 0, none⟩) (n + m) cap) (n + m) (xs ++ news) → w.grownBy w' v.ownBlock → (some g = v.ownBlock ∨ w.heap.size ≤ g) → wpListIn F nF P ops Q rest (a.put o.dst (.slice (some ⟨g, 0, none⟩) (n + m) cap)) w') :
    wpListIn F nF P ops Q (o :: rest) a w := by
  refine wpListIn_plain hgd fun K hK' => ?_
  obtain ⟨v', w', hrun, r1, r2, r3⟩ := run_append_at (P := P) w base t o.type e i z size bytes h1 h2 h3 h4 h5 h6 h7 v n xs hown ad m c news hl hnews h1c h63 hbytes hbase
  have r0 := r1
  rcases r0.2 with ⟨_, h0⟩ | ⟨g, cap, _, rfl, _⟩
  · omega
  unfold Oper.wpIn
  refine ⟨by simp [Oper.about, hop, resolve, Target.leads, Sem.run_pure], ?_⟩
  rw [Oper.semAt_plain F _ _ (by rw [hop]; intro c hc'; cases hc')]
  simp [execOp, hop, resolve, invoke, builtin, hs, hx, hrun, Result.andThen]
  exact hK' _ _ (hK g cap w' r1 r2 (by
    rcases r3 with h | ⟨k, h, hk⟩
    · exact .inl h
    · cases h; exact .inr hk))
end
end Go.Proofs.Ytdohepenmejcaaa.base
