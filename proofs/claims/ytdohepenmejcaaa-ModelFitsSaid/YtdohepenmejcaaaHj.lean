/- What stands at the head of each round of the loop over a trace's events, one event on. -/
import Derived.Test.YtdohepenmejcaaaHo
namespace Go.Proofs.Ytdohepenmejcaaa.hs
open Go Go.RowKit Go.Proofs.Ytdohepenmejcaaa.base Go.Maps
set_option linter.unusedVariables false
set_option maxRecDepth 100000

/-- At the head of the first loop's round. -/
def Rel1 (w0 : World) (om len : Nat) (e : Evs) (J : List (Tr × Value) → World → (Nat → Prop) → Prop) (i : Nat) (wr : World) (G : Int → Option (Nat × Tr)) (Fo : Int → Nat → Prop) (Fc : Nat → Prop) (xs : List (Tr × Value)) : Prop :=
  Opn w0.heap.size wr om i G Fo ∧ (∀ th, (G th).map Prod.snd = (opn e i th).map (fun b => trAt e b i)) ∧ J xs wr Fc ∧ xs.map Prod.fst = (ended e i).map (fun b => trAt e b len) ∧ (∀ k, Fc k → ¬ OpnF om G Fo k) ∧ (∀ k, Fc k → w0.heap.size ≤ k ∧ k < wr.heap.size) ∧ Below w0.heap.size w0 wr

def Firm2 (J : List (Tr × Value) → World → (Nat → Prop) → Prop) : Prop := ∀ pre W W' Fc, J pre W Fc → (∀ k, Fc k → W'.heap[k]? = W.heap[k]?) → J pre W' Fc

section
variable {w0 wr v1 u1 u2 : World} {om len i : Nat} {e : Evs} {J : List (Tr × Value) → World → (Nat → Prop) → Prop} {G : Int → Option (Nat × Tr)} {Fo : Int → Nat → Prop} {Fc : Nat → Prop} {xs : List (Tr × Value)}


/-- What is done beside all of it. -/
theorem Rel1.grown (h : Rel1 w0 om len e J i wr G Fo Fc xs) (firm : Firm2 J) (g : wr.grownBy v1 none) : Rel1 w0 om len e J i v1 G Fo Fc xs := by
  obtain ⟨h1, h2, h3, h4, h5, h6, h7⟩ := h
  exact ⟨h1.grown g, h2, firm _ _ _ _ h3 (fun k hk => g.block k (h6 k hk).2 (by simp)), h4, h5, fun k hk => ⟨(h6 k hk).1, Nat.lt_of_lt_of_le (h6 k hk).2 g.size⟩, bl_none h7 g⟩

/-- An event of no try that goes on, that begins none. -/
theorem rel1_skip (h : Rel1 w0 om len e J i wr G Fo Fc xs) (ho : opn e i (e i).th = none) (h1 : (e i).k ≠ 1) : Rel1 w0 om len e J (i + 1) wr G Fo Fc xs := by
  obtain ⟨r1, r2, r3, r4, r5, r6, r7⟩ := h
  refine ⟨r1.more, fun th => ?_, r3, ?_, r5, r6, r7⟩
  · rw [r2 th]
    have hop : opn e (i + 1) th = opn e i th := by
      rw [opn]
      by_cases hth : (e i).th = th
      · subst hth
        rw [if_pos rfl, if_neg h1, ho]
        split <;> rfl
      · rw [if_neg hth]
    rw [hop]
    cases hb : opn e i th with
    | none => rfl
    | some b =>
      have hth : (e i).th ≠ th := fun e1 => by rw [e1, hb] at ho; cases ho
      simp only [Option.map_some]
      rw [trAt_other e hb hth]
  · rw [r4, ended, ho]

/-- A try begins. -/
theorem rel1_put (h : Rel1 w0 om len e J i v1 G Fo Fc xs) (firm : Firm2 J) (ho : opn e i (e i).th = none) (h1 : (e i).k = 1) {bn : Nat} {ev : Ev} (hev : init i ev = init i (e i)) (g : v1.grownBy u1 none)
    (hg : Gng u1 (fun k => v1.heap.size ≤ k ∧ k < u1.heap.size) bn (init i ev) (fun _ => false) (fun _ => []) 0) (hm : MapG Try.prog 3 (Value.int .i64) u2 om (i + 1) (upd (fun th => (G th).map ptrV) (e i).th (some (.pointer (some ⟨bn, 0, none⟩))))) (g2 : u1.grownBy u2 (some om)) :
    ∃ G' Fo', Rel1 w0 om len e J (i + 1) u2 G' Fo' Fc xs := by
  obtain ⟨r1, r2, r3, r4, r5, r6, r7⟩ := h
  have hom := r1.map.lt
  have P := r1.put (e i).th (W'' := u2) (t := init i ev) g hg (fun k hk => hk) r7.size hm g2
  refine ⟨_, _, P, fun th => ?_, firm _ _ _ _ r3 (fun k hk => ?_), ?_, fun k hk hO => ?_, fun k hk => ⟨(r6 k hk).1, ?_⟩, ?_⟩
  · by_cases hth : th = (e i).th
    · subst hth
      rw [updG_same, opn, if_pos rfl, if_pos h1]
      simp only [Option.map_some]
      rw [trAt_init e i (i + 1) (Nat.le_refl _), hev]
    · rw [updG_other _ _ hth, r2 th, opn, if_neg (fun e1 => hth e1.symm)]
      cases hb : opn e i th with
      | none => rfl
      | some b =>
        simp only [Option.map_some]
        rw [trAt_other e hb (fun e1 => hth e1.symm)]
  · have hl := (r6 k hk).2
    exact (g2.block k (Nat.lt_of_lt_of_le hl g.size) (by simp; exact fun e1 => r5 k hk (.inl e1))).trans (g.block k hl (by simp))
  · rw [r4, ended, ho]
  · rcases hO with hO | ⟨th, hn, hF⟩
    · exact r5 k hk (.inl hO)
    · by_cases hth : th = (e i).th
      · subst hth
        rw [updFo_same] at hF
        have := (r6 k hk).2
        omega
      · rw [updG_other _ _ hth] at hn
        rw [updFo_other _ _ hth] at hF
        exact r5 k hk (.inr ⟨th, hn, hF⟩)
  · exact Nat.lt_of_lt_of_le (Nat.lt_of_lt_of_le (r6 k hk).2 g.size) g2.size
  · exact (bl_none r7 g).grown g2 (Nat.le_trans r7.size g.size) (fun k e1 => by cases e1; exact r1.om_le)

theorem G_of (h : Rel1 w0 om len e J i wr G Fo Fc xs) {th : Int} {b : Nat} (ho : opn e i th = some b) : ∃ bk, G th = some (bk, trAt e b i) := by
  have := h.2.1 th
  rw [ho] at this
  cases hG : G th with
  | none => rw [hG] at this; cases this
  | some x =>
    obtain ⟨bk, t⟩ := x
    rw [hG] at this
    simp only [Option.map_some, Option.some.injEq] at this
    exact ⟨bk, by rw [this]⟩
theorem G_no (h : Rel1 w0 om len e J i wr G Fo Fc xs) {th : Int} (ho : opn e i th = none) : G th = none := by
  have := h.2.1 th
  rw [ho] at this
  cases hG : G th with
  | none => rfl
  | some x => rw [hG] at this; cases this

/-- An event of a try that goes on, that doesn't end it. -/
theorem rel1_does (h : Rel1 w0 om len e J i v1 G Fo Fc xs) (firm : Firm2 J) {b bk : Nat} (ho : opn e i (e i).th = some b) (hG : G (e i).th = some (bk, trAt e b i)) (h1 : (e i).k ≠ 1) (h56 : ¬ ((e i).k = 5 ∨ (e i).k = 6))
    (hg : Gng u1 (Up (Fo (e i).th) v1 u1) bk (base.stepT (trAt e b i) i (e i)) (wrote (base.stepT (trAt e b i) i (e i)).ac) (readsF (base.stepT (trAt e b i) i (e i)).ac) (i + 1)) (go : Only (Fo (e i).th) v1 u1) :
    ∃ G' Fo', Rel1 w0 om len e J (i + 1) u1 G' Fo' Fc xs := by
  obtain ⟨r1, r2, r3, r4, r5, r6, r7⟩ := h
  have hne : G (e i).th ≠ none := by rw [hG]; simp
  have P := r1.step hG hg go r7.size
  refine ⟨_, _, P, fun th => ?_, firm _ _ _ _ r3 (fun k hk => go.block k (r6 k hk).2 (fun hF => r5 k hk (.inr ⟨_, hne, hF⟩))), ?_, fun k hk hO => ?_, fun k hk => ⟨(r6 k hk).1, Nat.lt_of_lt_of_le (r6 k hk).2 go.size⟩, go.below r7 r7.size (fun k hF => (r1.lt _ k hne hF).1)⟩
  · by_cases hth : th = (e i).th
    · subst hth
      rw [updG_same, opn, if_pos rfl, if_neg h1, if_neg h56, ho]
      simp only [Option.map_some]
      rw [trAt_step e ho]
    · rw [updG_other _ _ hth, r2 th, opn, if_neg (fun e1 => hth e1.symm)]
      cases hb : opn e i th with
      | none => rfl
      | some b =>
        simp only [Option.map_some]
        rw [trAt_other e hb (fun e1 => hth e1.symm)]
  · rw [r4, ended, ho]
    simp only [if_neg h56]
  · rcases hO with hO | ⟨th, hn, hF⟩
    · exact r5 k hk (.inl hO)
    · by_cases hth : th = (e i).th
      · subst hth
        rw [updFo_same] at hF
        rcases hF with hF | hF
        · exact r5 k hk (.inr ⟨_, hne, hF⟩)
        · have := (r6 k hk).2
          omega
      · rw [updG_other _ _ hth] at hn
        rw [updFo_other _ _ hth] at hF
        exact r5 k hk (.inr ⟨th, hn, hF⟩)

/-- What stands when a try has ended, and is no more in the map. -/
def Mid (w0 : World) (om len : Nat) (e : Evs) (J : List (Tr × Value) → World → (Nat → Prop) → Prop) (i : Nat) (th : Int) (wr : World) (G : Int → Option (Nat × Tr)) (Fo : Int → Nat → Prop) (Fc : Nat → Prop) (xs : List (Tr × Value)) : Prop :=
  Opn w0.heap.size wr om (i + 1) G Fo ∧ (∀ th, (G th).map Prod.snd = (opn e (i + 1) th).map (fun b => trAt e b (i + 1))) ∧ J xs wr Fc ∧ xs.map Prod.fst = (ended e i).map (fun b => trAt e b len) ∧ (∀ k, Fc k → ¬ OpnF om G Fo k) ∧ (∀ k, Fc k → w0.heap.size ≤ k ∧ k < wr.heap.size) ∧ Below w0.heap.size w0 wr ∧ G th = none ∧ (∀ k, Fo th k → ¬ Fc k ∧ w0.heap.size ≤ k ∧ k < wr.heap.size ∧ ¬ OpnF om G Fo k)

theorem rel1_mid (h : Rel1 w0 om len e J i v1 G Fo Fc xs) (firm : Firm2 J) {b bk : Nat} (ho : opn e i (e i).th = some b) (hG : G (e i).th = some (bk, trAt e b i)) (h56 : (e i).k = 5 ∨ (e i).k = 6)
    (hg : Gng u1 (Up (Fo (e i).th) v1 u1) bk (base.stepT (trAt e b i) i (e i)) (wrote (base.stepT (trAt e b i) i (e i)).ac) (readsF (base.stepT (trAt e b i) i (e i)).ac) (i + 1)) (go : Only (Fo (e i).th) v1 u1)
    (hm : MapG Try.prog 3 (Value.int .i64) u2 om (i + 1) (upd (fun th => (G th).map ptrV) (e i).th none)) (g2 : u1.grownBy u2 (some om)) :
    ∃ G' Fo', Mid w0 om len e J i (e i).th u2 G' Fo' Fc xs ∧ Fo' (e i).th = Up (Fo (e i).th) v1 u1 ∧ Gng u2 (Up (Fo (e i).th) v1 u1) bk (trAt e b (i + 1)) (wrote (trAt e b (i + 1)).ac) (readsF (trAt e b (i + 1)).ac) (i + 1) := by
  obtain ⟨r1, r2, r3, r4, r5, r6, r7⟩ := h
  have h1 : (e i).k ≠ 1 := by rcases h56 with h | h <;> omega
  have hne : G (e i).th ≠ none := by rw [hG]; simp
  have hom := r1.map.lt
  have P := r1.step hG hg go r7.size
  have hup : ∀ k, Up (Fo (e i).th) v1 u1 k → k ≠ om ∧ k < u1.heap.size ∧ w0.heap.size ≤ k ∧ ¬ Fc k := fun k hk => by
    have hB := r7.size
    rcases hk with hk | hk
    · have := r1.lt _ k hne hk
      exact ⟨this.2.2, Nat.lt_of_lt_of_le this.2.1 go.size, this.1, fun hc => r5 k hc (.inr ⟨_, hne, hk⟩)⟩
    · exact ⟨by omega, hk.2, by omega, fun hc => by have := (r6 k hc).2; omega⟩
  have D := P.del (e i).th (W' := u2) (hm.congr (fun x _ _ => by
    by_cases hx : x = (e i).th
    · subst hx
      rw [upd_same, upd_same]
    · rw [upd_other _ _ hx, upd_other _ _ hx, updG_other _ _ hx])) g2
  have hs1 := go.size
  have hs2 := g2.size
  refine ⟨_, _, ⟨D, fun th => ?_, firm _ _ _ _ r3 (fun k hk => ?_), r4, fun k hk hO => ?_, fun k hk => ⟨(r6 k hk).1, by have := (r6 k hk).2; omega⟩, (go.below r7 r7.size (fun k hF => (r1.lt _ k hne hF).1)).grown g2 (by have := r7.size; omega) (fun k e1 => by cases e1; exact r1.om_le), updG_same _ _ _, fun k hk => ?_⟩, updFo_same _ _ _, ?_⟩
  · by_cases hth : th = (e i).th
    · subst hth
      rw [updG_same, opn, if_pos rfl, if_neg h1, if_pos h56]
      rfl
    · rw [updG_other _ _ hth, updG_other _ _ hth, r2 th, opn, if_neg (fun e1 => hth e1.symm)]
      cases hb : opn e i th with
      | none => rfl
      | some b =>
        simp only [Option.map_some]
        rw [trAt_other e hb (fun e1 => hth e1.symm)]
  · have hl := (r6 k hk).2
    exact (g2.block k (Nat.lt_of_lt_of_le hl go.size) (by simp; exact fun e1 => r5 k hk (.inl e1))).trans (go.block k hl (fun hF => r5 k hk (.inr ⟨_, hne, hF⟩)))
  · rcases hO with hO | ⟨th, hn, hF⟩
    · exact r5 k hk (.inl hO)
    · by_cases hth : th = (e i).th
      · subst hth
        rw [updG_same] at hn
        exact hn rfl
      · rw [updG_other _ _ hth, updG_other _ _ hth] at hn
        rw [updFo_other _ _ hth] at hF
        exact r5 k hk (.inr ⟨th, hn, hF⟩)
  · rw [updFo_same] at hk
    obtain ⟨q1, q2, q3, q4⟩ := hup k hk
    refine ⟨q4, q3, by omega, fun hO => ?_⟩
    rcases hO with hO | ⟨th, hn, hF⟩
    · exact q1 hO
    · by_cases hth : th = (e i).th
      · subst hth
        rw [updG_same] at hn
        exact hn rfl
      · rw [updG_other _ _ hth, updG_other _ _ hth] at hn
        rw [updFo_other _ _ hth] at hF
        have h3 := r1.lt th k hn hF
        rcases hk with hk | hk
        · exact hth (r1.apart th _ k hn hne hF hk)
        · omega
  · rw [trAt_step e ho]
    exact hg.keep (fun k hk => g2.block k (hup k hk).2.1 (by simp; exact (hup k hk).1))

/-- The try has been told. -/
theorem mid_rel1 (h : Mid w0 om len e J i (e i).th u1 G Fo Fc xs) {b : Nat} (ho : opn e i (e i).th = some b) (h56 : (e i).k = 5 ∨ (e i).k = 6) (hi : i < len) {v : Value} {Fc' : Nat → Prop} (hJ : J (xs ++ [(trAt e b (i + 1), v)]) u2 Fc')
    (hF : ∀ k, Fc' k → Fc k ∨ Fo (e i).th k ∨ (u1.heap.size ≤ k ∧ k < u2.heap.size)) (go : Only Fc u1 u2) : Rel1 w0 om len e J (i + 1) u2 G Fo Fc' (xs ++ [(trAt e b (i + 1), v)]) := by
  obtain ⟨r1, r2, r3, r4, r5, r6, r7, r8, r9⟩ := h
  refine ⟨r1.frame (fun k hk => go.block k (OpnF.lt r1 hk).2 (fun hc => r5 k hc hk)) go.size, r2, hJ, ?_, fun k hk hO => ?_, fun k hk => ?_, go.below r7 r7.size (fun k hk => (r6 k hk).1)⟩
  · rw [List.map_append, r4, ended, ho]
    simp only [if_pos h56]
    rw [List.map_append]
    congr 1
    have he := trAt_ends e ho h56
    have := trAt_end e b (n := len) (by rw [he]; omega) (by omega : i + 1 ≤ len)
    simp [this]
  · rcases hF k hk with h | h | h
    · exact r5 k h hO
    · exact (r9 k h).2.2.2 hO
    · have := (OpnF.lt r1 hO).2
      omega
  · have hB := r7.size
    have hs := go.size
    rcases hF k hk with h | h | h
    · exact ⟨(r6 k h).1, Nat.lt_of_lt_of_le (r6 k h).2 go.size⟩
    · exact ⟨(r9 k h).2.1, Nat.lt_of_lt_of_le (r9 k h).2.2.1 go.size⟩
    · exact ⟨by omega, h.2⟩
end
end Go.Proofs.Ytdohepenmejcaaa.hs
