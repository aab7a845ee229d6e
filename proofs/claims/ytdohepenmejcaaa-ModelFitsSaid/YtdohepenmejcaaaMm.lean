/- What committed ones make of the objects, in plain numbers: of no program, and of no memory. -/
import Derived.Test.YtdohepenmejcaaaHm
namespace Go.Proofs.Ytdohepenmejcaaa.base
open Go

/-- One access, done to values. -/
def app1 (a : Acc) (z : Nat → Int) : Nat → Int := fun o => if a.k = 3 ∧ a.ob = (o : Int) then a.va else z o
/-- A try applied. -/
def app (z : Nat → Int) (l : List Acc) : Nat → Int := l.foldl (fun z a => app1 a z) z

theorem app_snoc (z : Nat → Int) (l : List Acc) (a : Acc) : app z (l ++ [a]) = app1 a (app z l) := by simp [app]
theorem app_take (z : Nat → Int) {l : List Acc} {k : Nat} {a : Acc} (h : l[k]? = some a) : app z (l.take (k + 1)) = app1 a (app z (l.take k)) := by
  rw [List.take_add_one, h]
  exact app_snoc _ _ _
theorem app_zero (z : Nat → Int) (l : List Acc) : app z (l.take 0) = z := rfl
theorem app_all (z : Nat → Int) (l : List Acc) : app z (l.take l.length) = app z l := by rw [List.take_length]
theorem app1_no {a : Acc} (z : Nat → Int) (h : a.k ≠ 3) : app1 a z = z := by
  funext o
  unfold app1
  rw [if_neg (fun h2 => h h2.1)]
theorem app1_out {a : Acc} (z : Nat → Int) (h : a.ob < 0) : app1 a z = z := by
  funext o
  unfold app1
  rw [if_neg (by omega)]
theorem app1_in {a : Acc} (z : Nat → Int) {i : Nat} (h : a.k = 3) (ho : a.ob = (i : Int)) : app1 a z = fun o => if o = i then a.va else z o := by
  funext o
  unfold app1
  by_cases e : o = i
  · subst e; rw [if_pos ⟨h, ho⟩, if_pos rfl]
  · rw [if_neg (by omega), if_neg e]

/-- What was written last to an object. -/
def lastW (l : List Acc) (o : Int) : Option Int := l.foldl (fun r a => if a.k = 3 ∧ a.ob = o then some a.va else r) none
theorem lastW_snoc (l : List Acc) (a : Acc) (o : Int) : lastW (l ++ [a]) o = if a.k = 3 ∧ a.ob = o then some a.va else lastW l o := by simp [lastW]
theorem lastW_take {l : List Acc} {k : Nat} {a : Acc} (h : l[k]? = some a) (o : Int) : lastW (l.take (k + 1)) o = if a.k = 3 ∧ a.ob = o then some a.va else lastW (l.take k) o := by
  rw [List.take_add_one, h]
  exact lastW_snoc _ _ _
theorem foldl_or (l : List Acc) (o : Int) : ∀ r : Option Int, l.foldl (fun r a => if a.k = 3 ∧ a.ob = o then some a.va else r) r = (lastW l o).or r := by
  induction l with
  | nil => intro r; rfl
  | cons a l ih =>
    intro r
    simp only [lastW, List.foldl_cons]
    rw [ih, ih (if a.k = 3 ∧ a.ob = o then some a.va else none)]
    split <;> cases lastW l o <;> rfl
theorem lastW_cons (l : List Acc) (a : Acc) (o : Int) : lastW (a :: l) o = (lastW l o).or (if a.k = 3 ∧ a.ob = o then some a.va else none) := by
  unfold lastW
  rw [List.foldl_cons, foldl_or]
  rfl
theorem app_last (l : List Acc) : ∀ (z : Nat → Int) (o : Nat), app z l o = (lastW l o).getD (z o) := by
  induction l with
  | nil => intro z o; rfl
  | cons a l ih =>
    intro z o
    have h : app z (a :: l) = app (app1 a z) l := rfl
    rw [h, ih, lastW_cons]
    cases lastW l o with
    | some v => rfl
    | none =>
      unfold app1
      split <;> rfl
theorem lastW_some {l : List Acc} {o v : Int} (h : lastW l o = some v) : ∃ a ∈ l, a.k = 3 ∧ a.ob = o ∧ a.va = v := by
  induction l with
  | nil => cases h
  | cons a l ih =>
    rw [lastW_cons] at h
    cases hl : lastW l o with
    | some u =>
      rw [hl] at h
      obtain ⟨b, hb, h1⟩ := ih (by rw [hl]; exact h)
      exact ⟨b, List.mem_cons_of_mem _ hb, h1⟩
    | none =>
      rw [hl] at h
      by_cases hc : a.k = 3 ∧ a.ob = o
      · rw [if_pos hc] at h
        injection h with h
        exact ⟨a, by simp, hc.1, hc.2, h⟩
      · rw [if_neg hc] at h; cases h

/-- Twice as once. -/
theorem app_twice (z : Nat → Int) (l : List Acc) : app (app z l) l = app z l := by
  funext o
  rw [app_last, app_last]
  cases lastW l o <;> rfl
/-- Two that write no object both. -/
theorem app_apart (z : Nat → Int) (l m : List Acc) (h : ∀ a ∈ l, ∀ b ∈ m, a.k = 3 → b.k = 3 → a.ob ≠ b.ob) : app (app z l) m = app (app z m) l := by
  funext o
  rw [app_last, app_last, app_last, app_last]
  cases hl : lastW l o with
  | none => cases lastW m o <;> rfl
  | some u =>
    cases hm : lastW m o with
    | none => rfl
    | some v =>
      obtain ⟨a, ha, a1, a2, _⟩ := lastW_some hl
      obtain ⟨b, hb, b1, b2, _⟩ := lastW_some hm
      exact absurd (a2.trans b2.symm) (h a ha b hb a1 b1)

/-- Does a reading tell what it should? -/
def tellsB (n : Nat) (z : Nat → Int) (w : Option Int) (a : Acc) : Bool :=
  match w with
  | some v => a.own && a.va == v
  | none => !a.own && decide (0 ≤ a.ob) && decide (a.ob < (n : Int)) && a.va == z a.ob.toNat
/-- Does an access, if it is a reading that isn't released? -/
def readOk (n : Nat) (z : Nat → Int) (w : Option Int) (a : Acc) : Bool := if a.k = 2 ∧ a.rel = false then tellsB n z w a else true
/-- Do the first k? -/
def fitsN (n : Nat) (z : Nat → Int) (l : List Acc) : Nat → Bool
  | 0 => true
  | k + 1 => fitsN n z l k && (match l[k]? with | none => true | some a => readOk n z (lastW (l.take k) a.ob) a)
def fits (n : Nat) (z : Nat → Int) (l : List Acc) : Bool := fitsN n z l l.length

theorem fitsN_step {n : Nat} {z : Nat → Int} {l : List Acc} {k : Nat} {a : Acc} (h : l[k]? = some a) : fitsN n z l (k + 1) = (fitsN n z l k && readOk n z (lastW (l.take k) a.ob) a) := by
  rw [fitsN, h]
theorem fitsN_iff {n : Nat} {z : Nat → Int} {l : List Acc} : ∀ {k : Nat}, fitsN n z l k = true ↔ ∀ i a, i < k → l[i]? = some a → readOk n z (lastW (l.take i) a.ob) a = true
  | 0 => by
    constructor
    · intro _ i a hi; omega
    · intro _; rfl
  | k + 1 => by
    rw [fitsN, Bool.and_eq_true, fitsN_iff (k := k)]
    constructor
    · rintro ⟨h1, h2⟩ i a hi ha
      by_cases e : i = k
      · subst e; rw [ha] at h2; exact h2
      · exact h1 i a (by omega) ha
    · intro h
      refine ⟨fun i a hi ha => h i a (by omega) ha, ?_⟩
      cases hk : l[k]? with
      | none => rfl
      | some a => exact h k a (by omega) hk
theorem fits_bad {n : Nat} {z : Nat → Int} {l : List Acc} {k : Nat} {a : Acc} (h : l[k]? = some a) (hb : readOk n z (lastW (l.take k) a.ob) a = false) : fits n z l = false := by
  cases e : fits n z l with
  | false => rfl
  | true =>
    have := fitsN_iff.1 e k a (List.getElem?_eq_some_iff.1 h).1 h
    rw [hb] at this
    cases this

/-- A reading of an object that counts, and isn't own. -/
def readsO (l : List Acc) (o : Int) : Nat → Bool
  | 0 => false
  | k + 1 => readsO l o k || (match l[k]? with | none => false | some a => decide (a.k = 2) && decide (a.ob = o) && !a.rel && !a.own)
theorem readsO_step {l : List Acc} {o : Int} {k : Nat} {a : Acc} (h : l[k]? = some a) : readsO l o (k + 1) = (readsO l o k || (decide (a.k = 2) && decide (a.ob = o) && !a.rel && !a.own)) := by
  rw [readsO, h]
theorem readsO_iff {l : List Acc} {o : Int} : ∀ {k : Nat}, readsO l o k = true ↔ ∃ i a, i < k ∧ l[i]? = some a ∧ a.k = 2 ∧ a.ob = o ∧ a.rel = false ∧ a.own = false
  | 0 => by
    constructor
    · intro h; cases h
    · rintro ⟨i, _, h, _⟩; omega
  | k + 1 => by
    rw [readsO, Bool.or_eq_true, readsO_iff (k := k)]
    constructor
    · rintro (⟨i, a, h1, h2⟩ | h)
      · exact ⟨i, a, by omega, h2⟩
      · cases hk : l[k]? with
        | none => rw [hk] at h; cases h
        | some a =>
          rw [hk] at h
          simp at h
          exact ⟨k, a, by omega, hk, h.1.1.1, h.1.1.2, h.1.2, h.2⟩
    · rintro ⟨i, a, h1, h2, h3, h4, h5, h6⟩
      by_cases e : i = k
      · subst e
        right
        rw [h2]
        simp [h3, h4, h5, h6]
      · exact .inl ⟨i, a, by omega, h2, h3, h4, h5, h6⟩

/-- Objects that it didn't read play no part. -/
theorem fits_other {n : Nat} {z y : Nat → Int} {l : List Acc} {o : Nat} (h : readsO l o l.length = false) (hz : ∀ i, i ≠ o → z i = y i) : fits n z l = fits n y l := by
  have key : ∀ z y : Nat → Int, (∀ i, i ≠ o → z i = y i) → fits n z l = true → fits n y l = true := by
    intro z y hz hf
    refine fitsN_iff.2 fun i a hi ha => ?_
    have h0 := fitsN_iff.1 hf i a hi ha
    unfold readOk at h0 ⊢
    by_cases hc : a.k = 2 ∧ a.rel = false
    · rw [if_pos hc] at h0 ⊢
      unfold tellsB at h0 ⊢
      cases hl : lastW (l.take i) a.ob with
      | some v => rw [hl] at h0; exact h0
      | none =>
        rw [hl] at h0
        dsimp only at h0 ⊢
        cases hw : a.own with
        | true => rw [hw] at h0; simp at h0
        | false =>
          have hne : a.ob ≠ (o : Int) := fun e => by
            have : readsO l o l.length = true := readsO_iff.2 ⟨i, a, hi, ha, hc.1, e, hc.2, hw⟩
            rw [h] at this
            cases this
          rw [hw] at h0
          simp at h0
          rw [← hz a.ob.toNat (by omega)]
          simp [h0]
    · rw [if_neg hc]
  cases e1 : fits n z l with
  | true => exact (key z y hz e1).symm
  | false =>
    cases e2 : fits n y l with
    | false => rfl
    | true =>
      rw [key y z (fun i hi => (hz i hi).symm) e2] at e1
      cases e1
/-- What it read that isn't there doesn't fit. -/
theorem fits_both {n : Nat} {z y : Nat → Int} {l : List Acc} {o : Nat} (h : readsO l o l.length = true) (h1 : fits n z l = true) (h2 : fits n y l = true) : z o = y o := by
  obtain ⟨i, a, hi, ha, a1, a2, a3, a4⟩ := readsO_iff.1 h
  have f1 := fitsN_iff.1 h1 i a hi ha
  have f2 := fitsN_iff.1 h2 i a hi ha
  unfold readOk at f1 f2
  rw [if_pos ⟨a1, a3⟩] at f1 f2
  unfold tellsB at f1 f2
  cases hl : lastW (l.take i) a.ob with
  | some v => rw [hl] at f1; simp [a4] at f1
  | none =>
    rw [hl] at f1 f2
    simp [a4, a2] at f1 f2
    rw [← f1.2, ← f2.2]

/-- The values behind the first i tries. -/
def stAt (z : Nat → Int) (c : List (List Acc)) (i : Nat) : Nat → Int := (c.take i).foldl app z
theorem stAt_zero (z : Nat → Int) (c : List (List Acc)) : stAt z c 0 = z := rfl
theorem stAt_step (z : Nat → Int) {c : List (List Acc)} {i : Nat} {l : List Acc} (h : c[i]? = some l) : stAt z c (i + 1) = app (stAt z c i) l := by
  unfold stAt
  rw [List.take_add_one, h]
  simp
theorem stAt_append (z : Nat → Int) (c d : List (List Acc)) {i : Nat} (h : i ≤ c.length) : stAt z (c ++ d) i = stAt z c i := by
  unfold stAt
  rw [List.take_append_of_le_length h]
end Go.Proofs.Ytdohepenmejcaaa.base
