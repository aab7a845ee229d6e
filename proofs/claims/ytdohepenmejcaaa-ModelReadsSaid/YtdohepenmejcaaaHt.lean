/- The tries that are asked for: hist's told. -/
import Derived.Test.YtdohepenmejcaaaHi
import Derived.Test.YtdohepenmejcaaaRf
import Derived.Test.YtdohepenmejcaaaHrC
import Derived.Maps.AppendAt
namespace Go.Proofs.Ytdohepenmejcaaa.hs
open Go Go.RowKit Go.Proofs.Ytdohepenmejcaaa.base Go.Maps
set_option linter.unusedVariables false
set_option maxRecDepth 100000
attribute [local go_sem] Oper.semAt_some

def tvC (x : Tr × Value) : List Value := trC x.1 x.2
theorem tvC_len (x : Tr × Value) : (tvC x).length = 9 := rfl

/-- What told holds while the tries come. -/
structure JTP (l D : Nat) (rec : Loop) (bw : Nat) (fw : Value) (bt : Nat) (Cap : List (Nat × TypeId × List Value)) (ys : List (Tr × Value)) (W : World) (Fc : Nat → Prop) (a : Option Addr) (c : Nat) : Prop where
  box : Blk 73 W bt #[.slice a ys.length c]
  row : W.ownsRow 0 33 9 (.slice a ys.length c) ys.length (rows tvC ys)
  acc : ∀ x ∈ ys, W.ownsRow 0 54 6 x.2 x.1.ac.length (rows accC x.1.ac)
  wan : Blk 94 W bw #[fw]
  loop : LoopAt l D rec W
  fbt : Fc bt
  fbw : Fc bw
  fl : Fc l
  fD : Fc D
  frow : ∀ k, (Value.slice a ys.length c).ownBlock = some k → Fc k
  facc : ∀ x ∈ ys, ∀ k, x.2.ownBlock = some k → Fc k
  cap : ∀ x ∈ Cap, Blk x.2.1 W x.1 ⟨x.2.2⟩ ∧ Fc x.1
def JT (l D : Nat) (rec : Loop) (bw : Nat) (fw : Value) (bt : Nat) (Cap : List (Nat × TypeId × List Value)) (p : Tr → Bool) (pre : List (Tr × Value)) (W : World) (Fc : Nat → Prop) : Prop := ∃ a c, JTP l D rec bw fw bt Cap (pre.filter fun x => p x.1) W Fc a c

theorem JTP.keep {l D : Nat} {rec : Loop} {bw : Nat} {fw : Value} {bt : Nat} {Cap : List (Nat × TypeId × List Value)} {ys : List (Tr × Value)} {W W' : World} {Fc Fd : Nat → Prop} {a : Option Addr} {c : Nat} (h : JTP l D rec bw fw bt Cap ys W Fc a c) (hk : ∀ k, Fc k → W'.heap[k]? = W.heap[k]?) (hF : ∀ k, Fc k → Fd k) : JTP l D rec bw fw bt Cap ys W' Fd a c :=
  ⟨h.box.keep (hk _ h.fbt), ownsRow_keep h.row (fun k e => hk _ (h.frow k e)), fun x hx => ownsRow_keep (h.acc x hx) (fun k e => hk _ (h.facc x hx k e)), h.wan.keep (hk _ h.fbw), h.loop.keep (hk _ h.fl) (hk _ h.fD), hF _ h.fbt, hF _ h.fbw, hF _ h.fl, hF _ h.fD, fun k e => hF _ (h.frow k e), fun x hx k e => hF _ (h.facc x hx k e), fun x hx => ⟨(h.cap x hx).1.keep (hk _ (h.cap x hx).2), hF _ (h.cap x hx).2⟩⟩
theorem jt_firm (l D : Nat) (rec : Loop) (bw : Nat) (fw : Value) (bt : Nat) (Cap : List (Nat × TypeId × List Value)) (p : Tr → Bool) : Firm2 (JT l D rec bw fw bt Cap p) := by
  rintro pre W W' Fc ⟨a, c, h⟩ hk
  exact ⟨a, c, h.keep hk (fun _ h => h)⟩

theorem infoTry : (Try.prog.info? 33).map (fun i => (i.zero, i.size, i.bytes)) = some (some (.agg #[.int .i64 0, .int .i64 0, .int .i64 0, .int .i64 0, .int .i64 0, .int .i64 0, .int .i64 0, .bool false, .slice none 0 0]), 9, 88) := by kernel_rfl

/-- The function value that says which tries are wanted: it says p, wherever its captured variables lie. -/
def Wants (Cap : List (Nat × TypeId × List Value)) (gw : Nat) (cw : Array Value) (p : Tr → Bool) : Prop :=
  (∀ args w, (callFunc gw args).run Try.prog w = .ok (.enter gw args) w) ∧ ∀ u t v, (∀ x ∈ Cap, Blk x.2.1 u x.1 ⟨x.2.2⟩) → Calls Try.prog gw (#[.agg ⟨trC t v⟩] ++ cw) u fun r u' => r = .returned (.bool (p t)) ∧ Hid (u.grownBy u' none)

section
variable {l D : Nat} {rec : Loop} {bw : Nat} {fw : Value} {bt : Nat} {Cap : List (Nat × TypeId × List Value)} {p : Tr → Bool} {pre : List (Tr × Value)} {W W' : World} {Fc G : Nat → Prop} {t : Tr} {v : Value}

theorem jt_skip (h : JT l D rec bw fw bt Cap p pre W Fc) (hp : p t = false) (hk : ∀ k, Fc k → W'.heap[k]? = W.heap[k]?) (hF : ∀ k, Fc k → G k) : JT l D rec bw fw bt Cap p (pre ++ [(t, v)]) W' G := by
  obtain ⟨a, c, h⟩ := h
  refine ⟨a, c, ?_⟩
  have : (pre ++ [(t, v)]).filter (fun x => p x.1) = pre.filter (fun x => p x.1) := by simp [hp]
  rw [this]
  exact h.keep hk hF

theorem jt_add {a : Option Addr} {c : Nat} (hCap : ∀ x ∈ Cap, x.2.1 = 3) (h : JTP l D rec bw fw bt Cap (pre.filter fun x => p x.1) W Fc a c) (hp : p t = true) (hv : W'.ownsRow 0 54 6 v t.ac.length (rows accC t.ac)) (hvG : ∀ k, v.ownBlock = some k → G k)
    (ho : Only (fun k => k = bt ∨ k = l ∨ (Value.slice a (pre.filter fun x => p x.1).length c).ownBlock = some k) W W') (hlt : ∀ k, Fc k → k < W.heap.size) {g c' : Nat} (hb : Blk 73 W' bt #[.slice (some ⟨g, 0, none⟩) ((pre.filter fun x => p x.1).length + 1) c'])
    (hr : W'.ownsRow 0 33 9 (.slice (some ⟨g, 0, none⟩) ((pre.filter fun x => p x.1).length + 1) c') ((pre.filter fun x => p x.1).length + 1) (rows tvC (pre.filter fun x => p x.1) ++ tvC (t, v))) (hL : W'.heap[l]? = some (.loop rec)) (hF : ∀ k, Fc k → G k) (hg : G g) :
    JT l D rec bw fw bt Cap p (pre ++ [(t, v)]) W' G := by
  have e1 : (pre ++ [(t, v)]).filter (fun x => p x.1) = pre.filter (fun x => p x.1) ++ [(t, v)] := by simp [hp]
  refine ⟨some ⟨g, 0, none⟩, c', ?_⟩
  rw [e1]
  generalize pre.filter (fun x => p x.1) = ys at *
  have hcell : ∀ k ty cs, W.heap[k]? = some (.cells cs ty (0, 0)) → ty ≠ 73 → ty ≠ 33 → Fc k → W'.heap[k]? = W.heap[k]? := fun k ty cs hk h1 h2 hf => by
    refine ho.block k (hlt k hf) ?_
    rintro (e | e | e)
    · have := h.box
      unfold Blk at this
      rw [← e, hk] at this
      injection this with this
      injection this with _ this
      exact h1 this
    · have := h.loop.1
      rw [← e, hk] at this
      cases this
    · obtain ⟨ds, hd⟩ := ownsRow_type h.row e
      rw [hk] at hd
      injection hd with hd
      injection hd with _ hd
      exact h2 hd
  have hl2 : (ys ++ [(t, v)]).length = ys.length + 1 := by simp
  refine ⟨by rw [hl2]; exact hb, by rw [hl2, show rows tvC (ys ++ [(t, v)]) = rows tvC ys ++ tvC (t, v) from rows_snoc _ _]; exact hr, fun x hx => ?_, ?_, ⟨hL, ?_⟩, hF _ h.fbt, hF _ h.fbw, hF _ h.fl, hF _ h.fD, fun k e => by cases e; exact hg, fun x hx k e => ?_, fun x hx => ⟨?_, hF _ (h.cap x hx).2⟩⟩
  · rcases List.mem_append.1 hx with hx | hx
    · refine ownsRow_keep (h.acc x hx) (fun k e => ?_)
      obtain ⟨cs, hc⟩ := ownsRow_type (h.acc x hx) e
      exact hcell k _ cs hc (by decide) (by decide) (h.facc x hx k e)
    · have : x = (t, v) := by simpa using hx
      subst this
      exact hv
  · exact h.wan.keep (hcell bw _ _ h.wan (by decide) (by decide) h.fbw)
  · refine (ho.block D (hlt D h.fD) ?_).trans h.loop.2
    have hd := h.loop.2
    rintro (e | e | e)
    · have := h.box
      unfold Blk at this
      rw [← e, hd] at this
      cases this
    · have := h.loop.1
      rw [← e, hd] at this
      cases this
    · obtain ⟨ds, hd2⟩ := ownsRow_type h.row e
      rw [hd] at hd2
      cases hd2
  · rcases List.mem_append.1 hx with hx | hx
    · exact hF _ (h.facc x hx k e)
    · have : x = (t, v) := by simpa using hx
      subst this
      exact hvG k e
  · exact (h.cap x hx).1.keep (hcell _ _ _ (h.cap x hx).1 (by rw [hCap x hx]; decide) (by rw [hCap x hx]; decide) (h.cap x hx).2)
end
end Go.Proofs.Ytdohepenmejcaaa.hs
