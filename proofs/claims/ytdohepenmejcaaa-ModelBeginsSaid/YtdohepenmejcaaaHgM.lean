/- A try on its way: plain facts of what it wrote and read. -/
import Derived.Test.YtdohepenmejcaaaHgR
namespace Go.Proofs.Ytdohepenmejcaaa.hs
open Go Go.RowKit Go.Proofs.Ytdohepenmejcaaa.base Go.Maps
set_option linter.unusedVariables false
set_option maxRecDepth 100000

def readsF (l : List Acc) : Int → List Nat := fun o => readsAt o 0 l
theorem readsAt_append (o : Int) (m : List Acc) : ∀ (l : List Acc) (n : Nat), readsAt o n (l ++ m) = readsAt o n l ++ readsAt o (n + l.length) m
  | [], n => by simp [readsAt]
  | a :: l, n => by
    have ih := readsAt_append o m l (n + 1)
    rw [List.cons_append, readsAt, readsAt]
    have e : n + 1 + l.length = n + (a :: l).length := by simp; omega
    rw [e] at ih
    split
    · rw [ih, List.cons_append]
    · exact ih
theorem readsAt_lt (o : Int) : ∀ (l : List Acc) (n : Nat), ∀ m ∈ readsAt o n l, n ≤ m ∧ m < n + l.length
  | [], n, m, h => by simp [readsAt] at h
  | a :: l, n, m, h => by
    have ih := readsAt_lt o l (n + 1)
    rw [readsAt] at h
    split at h
    · rcases List.mem_cons.1 h with rfl | h
      · simp
      · have := ih m h
        simp
        omega
    · have := ih m h
      simp
      omega
theorem readsAt_len (o : Int) : ∀ (l : List Acc) (n : Nat), (readsAt o n l).length ≤ l.length
  | [], n => by simp [readsAt]
  | a :: l, n => by
    have ih := readsAt_len o l (n + 1)
    rw [readsAt]
    split
    · simp; omega
    · simp; omega

theorem wrote_read (l : List Acc) (pl ob va : Int) (own rel : Bool) (o : Int) : wrote (l ++ [⟨pl, 2, ob, va, own, rel⟩]) o = wrote l o := by simp [wrote]
theorem wrote_write (l : List Acc) (pl ob va : Int) (own rel : Bool) (o : Int) : wrote (l ++ [⟨pl, 3, ob, va, own, rel⟩]) o = (wrote l o || decide (ob = o)) := by simp [wrote]
theorem readsF_read (l : List Acc) (pl ob va : Int) (own : Bool) : readsF (l ++ [⟨pl, 2, ob, va, own, false⟩]) = fun o => if o = ob then readsF l ob ++ [l.length] else readsF l o := by
  funext o
  unfold readsF
  rw [readsAt_append]
  by_cases h : o = ob
  · subst h
    simp [readsAt]
  · have h' : ob ≠ o := fun e => h e.symm
    simp [readsAt, h, h']
theorem readsF_write (l : List Acc) (pl ob va : Int) (own rel : Bool) : readsF (l ++ [⟨pl, 3, ob, va, own, rel⟩]) = readsF l := by
  funext o
  unfold readsF
  rw [readsAt_append]
  simp [readsAt]

theorem setRel_cons (a : Acc) (l : List Acc) (n : Nat) : setRel (a :: l) (n + 1) = a :: setRel l n := by simp [setRel]
theorem relAt_cons (a : Acc) (ns : List Nat) : ∀ l : List Acc, relAt (a :: l) (ns.map (· + 1)) = a :: relAt l ns := by
  induction ns with
  | nil => intro l; rfl
  | cons n ns ih =>
    intro l
    have : relAt (a :: l) ((n :: ns).map (· + 1)) = relAt (setRel (a :: l) (n + 1)) (ns.map (· + 1)) := by simp [relAt]
    rw [this, setRel_cons, ih]
    simp [relAt]
theorem readsAt_shift (o : Int) : ∀ (l : List Acc) (n : Nat), readsAt o (n + 1) l = (readsAt o n l).map (· + 1)
  | [], n => rfl
  | a :: l, n => by
    rw [readsAt, readsAt, readsAt_shift o l (n + 1)]
    split <;> simp
/-- To release the readings that aren't yet: all of them. -/
theorem relAt_reads (o : Int) : ∀ l : List Acc, relAt l (readsAt o 0 l) = relAll l o
  | [] => rfl
  | a :: l => by
    have ih := relAt_reads o l
    rw [readsAt]
    split
    · next h =>
      have h1 : relAt (a :: l) (0 :: readsAt o (0 + 1) l) = relAt (setRel (a :: l) 0) (readsAt o (0 + 1) l) := by simp [relAt]
      rw [h1, readsAt_shift]
      have h2 : setRel (a :: l) 0 = { a with rel := true } :: l := by simp [setRel]
      rw [h2, relAt_cons, ih]
      simp [relAll, Acc.free, h]
    · next h =>
      rw [readsAt_shift, relAt_cons, ih]
      have : Acc.free o a = a := by
        unfold Acc.free
        split
        · next h2 =>
          have h3 : a.rel = true := by
            cases hr : a.rel with
            | true => rfl
            | false => exact absurd ⟨h2.1, h2.2, hr⟩ h
          cases a
          simp_all
        · rfl
      simp [relAll, this]
theorem readsF_free (l : List Acc) (ob : Int) : readsF (relAll l ob) = updR (readsF l) ob := by
  funext o
  unfold readsF updR
  have key : ∀ (l : List Acc) (n : Nat), readsAt o n (relAll l ob) = if o = ob then [] else readsAt o n l := by
    intro l
    induction l with
    | nil => intro n; simp [relAll, readsAt]
    | cons a l ih =>
      intro n
      have e : relAll (a :: l) ob = Acc.free ob a :: relAll l ob := rfl
      rw [e, readsAt, readsAt, ih]
      by_cases ho : o = ob
      · subst ho
        simp only [if_true]
        rw [if_neg]
        unfold Acc.free
        split
        · simp
        · next h => exact fun h2 => h ⟨h2.1, h2.2.1⟩
      · simp only [if_neg ho]
        have hf : (Acc.free ob a).k = a.k ∧ (Acc.free ob a).ob = a.ob := by unfold Acc.free; split <;> exact ⟨rfl, rfl⟩
        rw [hf.1, hf.2]
        by_cases hk : a.k = 2 ∧ a.ob = o
        · have : Acc.free ob a = a := by
            unfold Acc.free
            rw [if_neg]
            rintro ⟨_, h2⟩
            exact ho (hk.2.symm.trans h2)
          rw [this]
        · rw [if_neg (fun h => hk ⟨h.1, h.2.1⟩), if_neg (fun h => hk ⟨h.1, h.2.1⟩)]
  exact key l 0
theorem wrote_free (l : List Acc) (ob : Int) : wrote (relAll l ob) = wrote l := by
  funext o
  unfold wrote relAll
  rw [List.any_map]
  congr 1
  funext a
  simp only [Function.comp, Acc.free]
  split <;> rfl

section
variable {w w' : World} {F : Nat → Prop} {b : Nat} {t : Tr} {W : Int → Bool} {R : Int → List Nat} {N : Nat} {v : Value} {wm rm : Nat} {rd : Int → Option Value}
/-- A reading is noted. -/
theorem GngP.push (h : GngP w F b t W R N v wm rm rd) (o : Int) (u' : Value) (ns : List Nat)
    (hw : Only (fun k => k = rm ∨ ((rd o).getD (.slice none 0 0)).ownBlock = some k) w w') (hm : MapG Try.prog 3 (Value.int .i64) w' rm (N + 1) (upd rd o (some u'))) (hr : w'.ownsRow 0 3 1 u' ns.length (ns.map natV))
    (hv : u'.ownBlock = ((rd o).getD (.slice none 0 0)).ownBlock ∨ ∃ k, u'.ownBlock = some k ∧ w.heap.size ≤ k) :
    GngP w' (Up F w w') b t W (fun p => if p = o then ns else R p) (N + 1) v wm rm (upd rd o (some u')) ∧ Only F w w' := by
  have hold : ∀ k, ((rd o).getD (.slice none 0 0)).ownBlock = some k → ∃ u, rd o = some u ∧ u.ownBlock = some k := fun k e => by
    cases hu : rd o with
    | none => rw [hu] at e; cases e
    | some u => rw [hu] at e; exact ⟨u, rfl, e⟩
  have hF : ∀ k, u'.ownBlock = some k → Up F w w' k := fun k e => by
    rcases hv with hv | ⟨k', hv, hk'⟩
    · obtain ⟨u, h1, h2⟩ := hold k (hv ▸ e)
      exact .inl (h.frd o u k h1 h2)
    · rw [e] at hv
      cases hv
      exact .inr ⟨hk', (hr.lt k e).2⟩
  have noap : ∀ p x k, p ≠ o → rd p = some x → x.ownBlock = some k → u'.ownBlock ≠ some k := fun p x k hp hx hk e => by
    rcases hv with hv | ⟨k', hv, hk'⟩
    · obtain ⟨u, h1, h2⟩ := hold k (hv ▸ e)
      exact hp (h.apart p o x u k hx h1 hk h2)
    · rw [e] at hv
      cases hv
      have := (h.rd_ne hx k hk).2.2.2.2
      omega
  refine ⟨⟨h.blk.keep (hw.block _ h.blk.lt ?_), ownsRow_keep h.row (fun k e => hw.block k (h.v_lt k e) ?_), (h.wmap.keep (hw.block _ h.wmap.lt ?_)).more (Nat.le_succ _), hm, fun p hp => ?_, fun p u hp => ?_, h.ne, fun p q u x k hp hq hk hk' => ?_, .inl h.fb, fun k e => .inl (h.fv k e), .inl h.fw, .inl h.fr, fun p u k hp hk => ?_⟩, hw.mono fun k _ hk => ?_⟩
  · rintro (e | e)
    · exact h.rm_ne e.symm
    · obtain ⟨u, h1, h2⟩ := hold _ e
      exact (h.rd_ne h1 _ h2).1 rfl
  · rintro (e2 | e2)
    · exact (h.v_ne k e).2.2 e2
    · obtain ⟨u, h1, h2⟩ := hold _ e2
      exact (h.rd_ne h1 _ h2).2.2.2.1 e
  · rintro (e | e)
    · exact h.ne e
    · obtain ⟨u, h1, h2⟩ := hold _ e
      exact (h.rd_ne h1 _ h2).2.1 rfl
  · by_cases e : p = o
    · subst e
      rw [upd_same] at hp
      cases hp
    · rw [upd_other _ _ e] at hp
      simp only [if_neg e]
      exact h.nope p hp
  · by_cases e : p = o
    · subst e
      rw [upd_same] at hp
      cases hp
      simp only [if_true]
      exact hr
    · rw [upd_other _ _ e] at hp
      simp only [if_neg e]
      refine ownsRow_keep (h.lst p u hp) (fun k e2 => hw.block k (h.rd_ne hp k e2).2.2.2.2 ?_)
      rintro (e3 | e3)
      · exact (h.rd_ne hp k e2).2.2.1 e3
      · obtain ⟨u2, h1, h2⟩ := hold _ e3
        exact e (h.apart p o u u2 k hp h1 e2 h2)
  · by_cases e : p = o
    · subst e
      rw [upd_same] at hp
      cases hp
      by_cases e' : q = p
      · exact e'.symm
      · rw [upd_other _ _ e'] at hq
        exact absurd hk (noap q x k e' hq hk')
    · rw [upd_other _ _ e] at hp
      by_cases e' : q = o
      · subst e'
        rw [upd_same] at hq
        cases hq
        exact absurd hk' (noap p u k e hp hk)
      · rw [upd_other _ _ e'] at hq
        exact h.apart p q u x k hp hq hk hk'
  · by_cases e : p = o
    · subst e
      rw [upd_same] at hp
      cases hp
      exact hF k hk
    · rw [upd_other _ _ e] at hp
      exact .inl (h.frd p u k hp hk)
  · rcases hk with rfl | e
    · exact h.fr
    · obtain ⟨u, h1, h2⟩ := hold _ e
      exact h.frd o u k h1 h2

/-- It wrote an object. -/
theorem GngP.wrotes (h : GngP w F b t W R N v wm rm rd) (o : Int) (hm : MapG Try.prog 3 (Value.int .i64) w' wm (N + 1) (upd (wroteV W) o (some (.bool true)))) (g : w.grownBy w' (some wm)) :
    GngP w' F b t (fun p => W p || decide (o = p)) R (N + 1) v wm rm rd ∧ Only F w w' := by
  refine ⟨⟨h.blk.grown g (by simp; exact fun e => h.wm_ne e.symm), ownsRow_keep h.row (fun k e => g.block k (h.v_lt k e) (by simp; exact (h.v_ne k e).2.1)), hm.congr (fun x _ _ => ?_), (h.rmap.grown g (by simp; exact fun e => h.ne e.symm)).more (Nat.le_succ _), h.nope, fun p u hp => ownsRow_keep (h.lst p u hp) (fun k e2 => g.block k (h.rd_ne hp k e2).2.2.2.2 (by simp; exact (h.rd_ne hp k e2).2.1)), h.ne, h.apart, h.fb, h.fv, h.fw, h.fr, h.frd⟩, Only.of g (fun k e _ => by cases e; exact h.fw)⟩
  by_cases e : x = o
  · subst e
    rw [upd_same]
    simp [wroteV]
  · rw [upd_other _ _ e]
    have : (o = x) = False := by simp; exact fun h => e h.symm
    simp [wroteV, this]
end
end Go.Proofs.Ytdohepenmejcaaa.hs
