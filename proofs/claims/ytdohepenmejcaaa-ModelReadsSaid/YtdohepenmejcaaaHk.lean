/- The second loop: the tries that haven't ended, in whatever order the map gives them. -/
import Derived.Test.YtdohepenmejcaaaHj
import Derived.Maps.RangeWalk
import Derived.Maps.OwnIn
namespace Go.Proofs.Ytdohepenmejcaaa.hs
open Go Go.RowKit Go.Proofs.Ytdohepenmejcaaa.base Go.Maps
set_option linter.unusedVariables false
set_option maxRecDepth 100000

theorem ranges_keep {w w' : World} {P : Program} {k : TypeId} {R : Value → Option (DataW Value × List MemPlace)} {b r n : Nat} {D : DataW Value} {left : Lit → Bool} {cnt : Nat} (h : w.ranges P k R b r n D left cnt) (hb : w'.heap[b]? = w.heap[b]?) (hr : w'.heap[r]? = w.heap[r]?) : w'.ranges P k R b r n D left cnt := by
  obtain ⟨es, clock, since, seen, c0, h1, h2, h3, h4, h5, h6⟩ := h
  exact ⟨es, clock, since, seen, c0, hb.trans h1, h2, h3, h4, hr.trans h5, h6⟩

/-- What D says of G. -/
def Says (D : DataW Value) (G : Int → Option (Nat × Tr)) : Prop := ∀ x kl, keyOf Try.prog 3 (.int .i64 x) = some kl → Maps.has D kl = ((G x).map ptrV).isSome ∧ ∀ v z, (G x).map ptrV = some v → D.atKey kl z = .held v

/-- The step of such a loop: a try comes, whichever. -/
theorem wpListIn_next_G {ops : Array Oper} {rest : List Oper} {o : Oper} {a : Act} {Q : Exit → Act → World → Prop} {w : World} {F : Fence} {nF : Nat} (hg : o.guard = none) (it : Operand) (hop : o.op = Op.next it false) (om r n : Nat) (D : DataW Value) (G : Int → Option (Nat × Tr)) (hD : Says D G) (left : Lit → Bool) (hl : ∀ kl, left kl = true → Maps.has D kl = true) (cnt : Nat)
    (hit : a.eval it = .pointer (some ⟨r, 0, none⟩)) (h : w.ranges Try.prog 3 heldR om r n D left cnt)
    (hDone : (∀ kl, left kl = false) → wpListIn F nF Try.prog ops Q rest (a.put o.dst (.tuple #[.bool false])) w)
    (hMore : ∀ (x : Int) (b : Nat) (t : Tr) (w' : World) (cnt' : Nat), G x = some (b, t) → left (.int .i64 x) = true → w'.ranges Try.prog 3 heldR om r n D (fun z => left z && !z.sameKey (.int .i64 x)) cnt' → cnt' < cnt →
      w.grownBy w' (some r) → w'.heap.size = w.heap.size → (Instr.entry (.pointer (some ⟨r, 0, none⟩))).run Try.prog w' = .ok (.tuple #[.int .i64 x, .pointer (some ⟨b, 0, none⟩)]) w' → wpListIn F nF Try.prog ops Q rest (a.put o.dst (.tuple #[.bool true, .int .i64 x, .pointer (some ⟨b, 0, none⟩)])) w') :
    wpListIn F nF Try.prog ops Q (o :: rest) a w :=
  wpListIn_next_ranges w hg it hop 3 kInt heldR (Value.int .i64) id (fun key kl hkey => by obtain ⟨x, rfl, _⟩ := Maps.keyOf_int_inv Try.underlying3 hkey; exact ⟨x, rfl⟩) (fun v _ _ => ⟨v, rfl⟩)
    om r n D left cnt hit h (fun _ h => hDone h) (fun x c kl y w' cnt' hkey hlk hv hat hrg hlt hgr hsz hen => by
      obtain ⟨x', ex, rfl, hwx⟩ := Maps.keyOf_int_inv Try.underlying3 hkey
      cases ex
      obtain ⟨h1, h2⟩ := hD x _ hkey
      rw [hl _ hlk] at h1
      cases hG : G x with
      | none => rw [hG] at h1; cases h1
      | some p =>
        obtain ⟨b, t⟩ := p
        rw [hG] at h2
        have h3 := h2 (ptrV (b, t)) (.held undef) rfl
        rw [hat] at h3
        unfold heldR at hv
        cases hv
        injection h3 with h4
        have h5 : c = .pointer (some ⟨b, 0, none⟩) := h4
        subst h5
        exact hMore x b t w' cnt' hG hlk hrg hlt hgr hsz hen)

def Rel2 (w0 : World) (om r len : Nat) (e : Evs) (J : List (Tr × Value) → World → (Nat → Prop) → Prop) (D : DataW Value) (G : Int → Option (Nat × Tr)) (Fo : Int → Nat → Prop) (wr : World) (left : Lit → Bool) (cnt : Nat) (xs : List (Tr × Value)) (Fc : Nat → Prop) (rest : List Nat) : Prop :=
  wr.ranges Try.prog 3 heldR om r len D left cnt ∧ (∀ kl, left kl = true → Maps.has D kl = true) ∧ (∀ th b t, G th = some (b, t) → left (.int .i64 th) = true → Gng wr (Fo th) b t (wrote t.ac) (readsF t.ac) len) ∧
  J xs wr Fc ∧ xs.map Prod.fst = (ended e len ++ rest).map (fun b => trAt e b len) ∧ rest.Nodup ∧ (∀ b, b ∈ rest ↔ ∃ th, opn e len th = some b ∧ left (.int .i64 th) = false) ∧
  (∀ k, Fc k → k ≠ om ∧ k ≠ r ∧ ∀ th, G th ≠ none → left (.int .i64 th) = true → ¬ Fo th k) ∧ (∀ k, Fc k → w0.heap.size ≤ k ∧ k < wr.heap.size) ∧ Below w0.heap.size w0 wr ∧
  (∀ th k, G th ≠ none → Fo th k → w0.heap.size ≤ k ∧ k < r ∧ k ≠ om) ∧ (∀ th th' k, G th ≠ none → G th' ≠ none → Fo th k → Fo th' k → th = th') ∧ om < r ∧ w0.heap.size ≤ r ∧ r < wr.heap.size ∧ (∀ th, (G th).map Prod.snd = (opn e len th).map (fun b => trAt e b len))

section
variable {w0 w1 w2 u3 wr w' : World} {om r len : Nat} {e : Evs} {J : List (Tr × Value) → World → (Nat → Prop) → Prop} {D : DataW Value} {G : Int → Option (Nat × Tr)} {Fo : Int → Nat → Prop} {Fc : Nat → Prop} {xs : List (Tr × Value)} {left : Lit → Bool} {cnt : Nat} {rest : List Nat}

theorem rel2_start (h : Rel1 w0 om len e J len wr G Fo Fc xs) (firm : Firm2 J) (hwf : ∀ th b, opn e len th = some b → (Lit.int .i64 th).wf = true) (hD : Says D G) (hrg : w'.ranges Try.prog 3 heldR om wr.heap.size len D (Maps.has D) (Maps.size D)) (hg : wr.grownBy w' none) (hs : w'.heap.size = wr.heap.size + 1) :
    Rel2 w0 om wr.heap.size len e J D G Fo w' (Maps.has D) (Maps.size D) xs Fc [] := by
  have h' := h.grown firm hg
  obtain ⟨r1, r2, r3, r4, r5, r6, r7⟩ := h
  obtain ⟨q1, q2, q3, q4, q5, q6, q7⟩ := h'
  refine ⟨hrg, fun _ h => h, fun th b t hG _ => q1.gng th b t hG, q3, by rw [List.append_nil]; exact r4, List.nodup_nil, fun b => ⟨fun h => by simp at h, ?_⟩, fun k hk => ⟨fun e1 => r5 k hk (.inl e1), by have := (r6 k hk).2; omega, fun th hn _ hF => r5 k hk (.inr ⟨th, hn, hF⟩)⟩, q6, q7, fun th k hn hF => r1.lt th k hn hF, r1.apart, r1.map.lt, r7.size, by omega, r2⟩
  rintro ⟨th, ho, hl⟩
  obtain ⟨bk, hG⟩ := G_of ⟨r1, r2, r3, r4, r5, r6, r7⟩ ho
  have := (hD th _ (keyInt (hwf th b ho))).1
  rw [hG] at this
  rw [hl] at this
  cases this

/-- One of them has come. -/
theorem rel2_came (h : Rel2 w0 om r len e J D G Fo w1 left cnt xs Fc rest) (firm : Firm2 J) (hg : w1.grownBy w2 (some r)) {x : Int} {b : Nat} {t : Tr} (hG : G x = some (b, t)) (hl : left (.int .i64 x) = true) :
    J xs w2 Fc ∧ Gng w2 (Fo x) b t (wrote t.ac) (readsF t.ac) len ∧ (∀ k, Fc k → ¬ Fo x k) ∧ (∀ k, Fo x k → k < w2.heap.size) ∧ (∃ p, opn e len x = some p ∧ t = trAt e p len) := by
  obtain ⟨h1, h2, h3, h4, h5, h6, h7, h8, h9, h10, h11, h12, h13, h14, h15, h16⟩ := h
  have hne : G x ≠ none := by rw [hG]; simp
  refine ⟨firm _ _ _ _ h4 (fun k hk => hg.block k (h9 k hk).2 (by simp; exact (h8 k hk).2.1)), (h3 x b t hG hl).keep (fun k hk => hg.block k (by have := (h11 x k hne hk).2.1; omega) (by simp; have := (h11 x k hne hk).2.1; omega)), fun k hk hF => (h8 k hk).2.2 x hne hl hF, fun k hF => by have := (h11 x k hne hF).2.1; have := hg.size; omega, ?_⟩
  have := h16 x
  rw [hG] at this
  cases ho : opn e len x with
  | none => rw [ho] at this; cases this
  | some p =>
    rw [ho] at this
    simp only [Option.map_some, Option.some.injEq] at this
    exact ⟨p, rfl, this⟩

theorem sameKey_int (a b : Int) : (Lit.int .i64 a).sameKey (.int .i64 b) = decide (a = b) := by simp [Lit.sameKey]

theorem rel2_step (h : Rel2 w0 om r len e J D G Fo w1 left cnt xs Fc rest) (firm : Firm2 J) {cnt' : Nat} {x : Int} (hrg : w2.ranges Try.prog 3 heldR om r len D (fun z => left z && !z.sameKey (.int .i64 x)) cnt') (hg : w1.grownBy w2 (some r)) {b p : Nat} {t : Tr} (hG : G x = some (b, t)) (hl : left (.int .i64 x) = true)
    (ho : opn e len x = some p) (ht : t = trAt e p len) {v : Value} {Fc' : Nat → Prop} (hJ : J (xs ++ [(t, v)]) u3 Fc') (hF : ∀ k, Fc' k → Fc k ∨ Fo x k ∨ (w2.heap.size ≤ k ∧ k < u3.heap.size)) (go : Only Fc w2 u3) :
    Rel2 w0 om r len e J D G Fo u3 (fun z => left z && !z.sameKey (.int .i64 x)) cnt' (xs ++ [(t, v)]) Fc' (rest ++ [p]) := by
  obtain ⟨h1, h2, h3, h4, h5, h6, h7, h8, h9, h10, h11, h12, h13, h14, h15, h16⟩ := h
  have hne : G x ≠ none := by rw [hG]; simp
  have hs := hg.size
  have hs2 := go.size
  have hleft : ∀ th, (left (.int .i64 th) && !(Lit.int .i64 th).sameKey (.int .i64 x)) = true → left (.int .i64 th) = true ∧ th ≠ x := fun th h => by
    rw [sameKey_int] at h
    simpa using h
  refine ⟨ranges_keep hrg (go.block om (by omega) (fun hc => (h8 om hc).1 rfl)) (go.block r (by omega) (fun hc => (h8 r hc).2.1 rfl)), fun kl hk => h2 kl (by simp at hk; exact hk.1), fun th b' t' hG' hl' => ?_, hJ, ?_, ?_, fun q => ?_, fun k hk => ?_, fun k hk => ?_, (go.below (h10.grown hg h10.size (fun k e1 => by cases e1; exact h14)) (by have := h10.size; omega) (fun k hk => (h9 k hk).1)), h11, h12, h13, h14, by omega, h16⟩
  · obtain ⟨q1, q2⟩ := hleft th hl'
    have hn' : G th ≠ none := by rw [hG']; simp
    exact (h3 th b' t' hG' q1).keep (fun k hk => by
      have h17 := h11 th k hn' hk
      exact (go.block k (by omega) (fun hc => (h8 k hc).2.2 th hn' q1 hk)).trans (hg.block k (by omega) (by simp; omega)))
  · rw [List.map_append, h5, ← List.append_assoc, List.map_append (l₁ := ended e len ++ rest)]
    simp [ht]
  · refine List.nodup_append.2 ⟨h6, by simp, fun a ha c hc hac => ?_⟩
    have : c = p := by simpa using hc
    subst this
    subst hac
    obtain ⟨th, h17, h18⟩ := (h7 a).1 ha
    have h19 := (opn_spec e _ _ _ h17).2.2.1
    have h20 := (opn_spec e _ _ _ ho).2.2.1
    rw [← h19, h20, hl] at h18
    cases h18
  · rw [List.mem_append, h7]
    constructor
    · rintro (⟨th, h17, h18⟩ | h17)
      · exact ⟨th, h17, by simp [h18]⟩
      · have : q = p := by simpa using h17
        subst this
        exact ⟨x, ho, by simp [sameKey_int]⟩
    · rintro ⟨th, h17, h18⟩
      simp only [sameKey_int] at h18
      by_cases hx : th = x
      · subst hx
        rw [ho] at h17
        cases h17
        exact .inr (by simp)
      · left
        refine ⟨th, h17, ?_⟩
        simpa [hx] using h18
  · rcases hF k hk with h17 | h17 | h17
    · exact ⟨(h8 k h17).1, (h8 k h17).2.1, fun th hn hl' => (h8 k h17).2.2 th hn (hleft th hl').1⟩
    · have h18 := h11 x k hne h17
      exact ⟨h18.2.2, by omega, fun th hn hl' hF' => (hleft th hl').2 (h12 th x k hn hne hF' h17)⟩
    · exact ⟨by omega, by omega, fun th hn _ hF' => by have := h11 th k hn hF'; omega⟩
  · have hB := h10.size
    rcases hF k hk with h17 | h17 | h17
    · exact ⟨(h9 k h17).1, by have := (h9 k h17).2; omega⟩
    · have h18 := h11 x k hne h17
      exact ⟨h18.1, by omega⟩
    · exact ⟨by omega, h17.2⟩

theorem rel2_done (h : Rel2 w0 om r len e J D G Fo w1 left cnt xs Fc rest) (hl : ∀ kl, left kl = false) : rest.Nodup ∧ (∀ b, b ∈ rest ↔ ∃ th, opn e len th = some b) ∧ xs.map Prod.fst = (ended e len ++ rest).map (fun b => trAt e b len) := by
  obtain ⟨h1, h2, h3, h4, h5, h6, h7, h8⟩ := h
  refine ⟨h6, fun b => ?_, h5⟩
  rw [h7]
  exact ⟨fun ⟨th, h, _⟩ => ⟨th, h⟩, fun ⟨th, h⟩ => ⟨th, h, hl _⟩⟩
end
end Go.Proofs.Ytdohepenmejcaaa.hs
