/- What happened, attempt by attempt, in plain numbers: traces, tries, and in which order they come. Of no program, and of no memory. -/
import Derived.WalkKit
namespace Go.Proofs.Ytdohepenmejcaaa.base
open Go

/-- An event: kind, thread, transaction, attempt, object, value, reason. -/
structure Ev where
  k : Int
  th : Int
  tx : Int
  at_ : Int
  ob : Int
  va : Int
  re : Int
deriving Inhabited, DecidableEq

abbrev Evs := Nat → Ev

/-- Where the try of a thread that goes on ahead of a place began. -/
def opn (e : Evs) : Nat → Int → Option Nat
  | 0, _ => none
  | i + 1, th => if (e i).th = th then (if (e i).k = 1 then some i else if (e i).k = 5 ∨ (e i).k = 6 then none else opn e i th) else opn e i th

/-- The attempt of a transaction's last EvBegin ahead of a place. -/
def cnt (e : Evs) : Nat → Int → Int → Int
  | 0, _, _ => 0
  | i + 1, th, tx => if (e i).k = 1 ∧ (e i).th = th ∧ (e i).tx = tx then (e i).at_ else cnt e i th tx

/-- May the event at a place come? -/
def may (e : Evs) (i : Nat) : Bool :=
  match opn e i (e i).th with
  | none => ((e i).k == 1 && (e i).at_ == IntKind.i64.wrap (cnt e i (e i).th (e i).tx + 1)) || (e i).k == 7
  | some b => decide (2 ≤ (e i).k) && decide ((e i).k ≤ 6) && (e i).tx == (e b).tx && (e i).at_ == (e b).at_

def right (e : Evs) : Nat → Bool
  | 0 => true
  | i + 1 => right e i && may e i

/-- An access: place, kind, object, value; own; released. -/
structure Acc where
  pl : Int
  k : Int
  ob : Int
  va : Int
  own : Bool
  rel : Bool
deriving Inhabited, DecidableEq

structure Tr where
  th : Int
  tx : Int
  at_ : Int
  st : Int
  b : Int
  en : Int
  re : Int
  co : Bool
  ac : List Acc
deriving Inhabited, DecidableEq

def wrote (l : List Acc) (o : Int) : Bool := l.any fun a => decide (a.k = 3) && decide (a.ob = o)
/-- The places among the accesses of the readings of an object that aren't released. -/
def readsAt (o : Int) : Nat → List Acc → List Nat
  | _, [] => []
  | n, a :: l => if a.k = 2 ∧ a.ob = o ∧ a.rel = false then n :: readsAt o (n + 1) l else readsAt o (n + 1) l
def Acc.free (o : Int) (a : Acc) : Acc := if a.k = 2 ∧ a.ob = o then { a with rel := true } else a
def relAll (l : List Acc) (o : Int) : List Acc := l.map (Acc.free o)

def stepT (t : Tr) (i : Nat) (e : Ev) : Tr :=
  if e.k = 2 then { t with ac := t.ac ++ [⟨i, 2, e.ob, e.va, wrote t.ac e.ob, false⟩] }
  else if e.k = 3 then { t with ac := t.ac ++ [⟨i, 3, e.ob, e.va, false, false⟩] }
  else if e.k = 4 then { t with ac := relAll t.ac e.ob }
  else if e.k = 5 then { t with en := i, co := true }
  else if e.k = 6 then { t with en := i, re := e.re }
  else t

def init (b : Nat) (e : Ev) : Tr := ⟨e.th, e.tx, e.at_, e.va, b, -1, 0, false, []⟩

/-- The try that began at place b, as it is ahead of a place. -/
def trAt (e : Evs) (b : Nat) : Nat → Tr
  | 0 => init b (e b)
  | i + 1 => if b < i ∧ (e i).th = (e b).th ∧ (trAt e b i).en < 0 then stepT (trAt e b i) i (e i) else trAt e b i

/-- The tries that have ended ahead of a place, in that order, by their beginnings. -/
def ended (e : Evs) : Nat → List Nat
  | 0 => []
  | i + 1 => match opn e i (e i).th with
    | some b => if (e i).k = 5 ∨ (e i).k = 6 then ended e i ++ [b] else ended e i
    | none => ended e i

/-- The tries in the order of their beginnings. -/
def begins (e : Evs) (n : Nat) : List Nat := (List.range n).filter fun i => decide ((e i).k = 1)
def tries (e : Evs) (n : Nat) : List Tr := (begins e n).map fun b => trAt e b n
/-- Those that committed, in the order of their ends. -/
def comms (e : Evs) (n : Nat) : List Tr := (List.range n).filterMap fun i => if (e i).k = 5 then (opn e i (e i).th).map fun b => trAt e b n else none
def before (e : Evs) : Nat → Nat
  | 0 => 0
  | i + 1 => before e i + (if (e i).k = 5 then 1 else 0)

theorem stepT_fix (t : Tr) (i : Nat) (e : Ev) : (stepT t i e).th = t.th ∧ (stepT t i e).tx = t.tx ∧ (stepT t i e).at_ = t.at_ ∧ (stepT t i e).st = t.st ∧ (stepT t i e).b = t.b := by
  unfold stepT
  repeat' split
  all_goals exact ⟨rfl, rfl, rfl, rfl, rfl⟩
theorem stepT_en (t : Tr) (i : Nat) (e : Ev) : (stepT t i e).en = if e.k = 5 ∨ e.k = 6 then (i : Int) else t.en := by
  unfold stepT
  by_cases h2 : e.k = 2
  · simp [h2]
  by_cases h3 : e.k = 3
  · simp [h3]
  by_cases h4 : e.k = 4
  · simp [h4]
  by_cases h5 : e.k = 5
  · simp [h5]
  by_cases h6 : e.k = 6
  · simp [h6]
  simp [h2, h3, h4, h5, h6]

theorem trAt_fix (e : Evs) (b : Nat) : ∀ i, (trAt e b i).th = (e b).th ∧ (trAt e b i).tx = (e b).tx ∧ (trAt e b i).at_ = (e b).at_ ∧ (trAt e b i).st = (e b).va ∧ (trAt e b i).b = b
  | 0 => ⟨rfl, rfl, rfl, rfl, rfl⟩
  | i + 1 => by
    have h := trAt_fix e b i
    unfold trAt
    split
    · obtain ⟨h1, h2, h3, h4, h5⟩ := stepT_fix (trAt e b i) i (e i)
      exact ⟨h1.trans h.1, h2.trans h.2.1, h3.trans h.2.2.1, h4.trans h.2.2.2.1, h5.trans h.2.2.2.2⟩
    · exact h

theorem trAt_init (e : Evs) (b : Nat) : ∀ i, i ≤ b + 1 → trAt e b i = init b (e b)
  | 0, _ => rfl
  | i + 1, h => by
    unfold trAt
    rw [if_neg (by omega)]
    exact trAt_init e b i (by omega)

theorem opn_spec (e : Evs) : ∀ (i : Nat) (th : Int) (b : Nat), opn e i th = some b → b < i ∧ (e b).k = 1 ∧ (e b).th = th ∧ (trAt e b i).en = -1
  | 0, th, b, h => by simp [opn] at h
  | i + 1, th, b, h => by
    unfold opn at h
    have ih := opn_spec e i th b
    split at h
    · next hth =>
      split at h
      · next h1 =>
        cases h
        exact ⟨by omega, h1, hth, by rw [trAt_init _ _ _ (Nat.le_refl _)]; rfl⟩
      · next h1 =>
        split at h
        · cases h
        · next h56 =>
          obtain ⟨a1, a2, a3, a4⟩ := ih h
          refine ⟨by omega, a2, a3, ?_⟩
          rw [trAt]
          split
          · rw [stepT_en, if_neg h56, a4]
          · exact a4
    · next hth =>
      obtain ⟨a1, a2, a3, a4⟩ := ih h
      refine ⟨by omega, a2, a3, ?_⟩
      rw [trAt, if_neg (by rw [a3]; simp [hth]), a4]

/-- What an event of a thread that is at a try does to it. -/
theorem trAt_step (e : Evs) {i b : Nat} (h : opn e i (e i).th = some b) : trAt e b (i + 1) = stepT (trAt e b i) i (e i) := by
  obtain ⟨a1, a2, a3, a4⟩ := opn_spec e i _ b h
  rw [trAt]
  by_cases hb : b < i
  · rw [if_pos ⟨hb, a3.symm, by rw [a4]; omega⟩]
  · omega
theorem trAt_other (e : Evs) {i b : Nat} {th : Int} (h : opn e i th = some b) (hth : (e i).th ≠ th) : trAt e b (i + 1) = trAt e b i := by
  obtain ⟨a1, a2, a3, a4⟩ := opn_spec e i _ b h
  rw [trAt, if_neg (by rw [a3]; simp [hth])]

theorem trAt_done (e : Evs) (b : Nat) {i : Nat} (h : 0 ≤ (trAt e b i).en) : ∀ j, trAt e b (i + j) = trAt e b i
  | 0 => rfl
  | j + 1 => by
    have ih := trAt_done e b h j
    rw [← Nat.add_assoc, trAt, ih, if_neg (by omega)]
theorem trAt_end (e : Evs) (b : Nat) {i n : Nat} (h : 0 ≤ (trAt e b i).en) (hn : i ≤ n) : trAt e b n = trAt e b i := by
  have := trAt_done e b h (n - i)
  rwa [show i + (n - i) = n by omega] at this

/-- An end: the try that is open ends here. -/
theorem trAt_ends (e : Evs) {i b : Nat} (h : opn e i (e i).th = some b) (h56 : (e i).k = 5 ∨ (e i).k = 6) : (trAt e b (i + 1)).en = i := by
  rw [trAt_step e h, stepT_en, if_pos h56]

theorem right_le (e : Evs) {n : Nat} (h : right e n = true) : ∀ m, m ≤ n → right e m = true := by
  induction n with
  | zero => intro m hm; rw [show m = 0 by omega]; rfl
  | succ n ih =>
    intro m hm
    rw [right, Bool.and_eq_true] at h
    by_cases hmn : m = n + 1
    · subst hmn; rw [right, h.1, h.2]; rfl
    · exact ih h.1 m (by omega)
theorem right_may (e : Evs) {n : Nat} (h : right e n = true) {i : Nat} (hi : i < n) : may e i = true := by
  have := right_le e h (i + 1) (by omega)
  rw [right, Bool.and_eq_true] at this
  exact this.2

/-- What ended has its end where it was. -/
theorem ended_spec (e : Evs) : ∀ n, ∀ b ∈ ended e n, b < n ∧ (e b).k = 1 ∧ 0 ≤ (trAt e b n).en ∧ (trAt e b n).en < n ∧ opn e n (e b).th ≠ some b
  | 0, b, h => by simp [ended] at h
  | n + 1, b, h => by
    have ih := ended_spec e n
    have old : b ∈ ended e n → b < n + 1 ∧ (e b).k = 1 ∧ 0 ≤ (trAt e b (n + 1)).en ∧ (trAt e b (n + 1)).en < (n + 1 : Nat) ∧ opn e (n + 1) (e b).th ≠ some b := fun hm => by
      obtain ⟨a1, a2, a3, a4, a5⟩ := ih b hm
      rw [trAt_end e b a3 (Nat.le_succ n)]
      refine ⟨by omega, a2, a3, by omega, fun ho => ?_⟩
      have := (opn_spec e _ _ _ ho).2.2.2
      rw [trAt_end e b a3 (Nat.le_succ n)] at this
      omega
    unfold ended at h
    cases ho : opn e n (e n).th with
    | none => rw [ho] at h; exact old h
    | some c =>
      rw [ho] at h
      dsimp only at h
      split at h
      · next h56 =>
        rcases List.mem_append.1 h with h | h
        · exact old h
        · have hb : b = c := by simpa using h
          subst hb
          obtain ⟨a1, a2, a3, a4⟩ := opn_spec e _ _ _ ho
          have := trAt_ends e ho h56
          refine ⟨by omega, a2, by omega, by omega, fun h2 => ?_⟩
          have := (opn_spec e _ _ _ h2).2.2.2
          omega
      · exact old h

theorem ended_nodup (e : Evs) : ∀ n, (ended e n).Nodup
  | 0 => List.nodup_nil
  | n + 1 => by
    unfold ended
    cases ho : opn e n (e n).th with
    | none => exact ended_nodup e n
    | some c =>
      dsimp only
      split
      · refine List.nodup_append.2 ⟨ended_nodup e n, by simp, ?_⟩
        intro a ha b hb hab
        have hbc : b = c := by simpa using hb
        subst hbc; subst hab
        have h1 := ended_spec e n _ ha
        rw [(opn_spec e _ _ _ ho).2.2.1] at h1
        exact h1.2.2.2.2 ho
      · exact ended_nodup e n

/-- In a right trace each try has ended, or goes on. -/
theorem begun_all (e : Evs) : ∀ n, right e n = true → ∀ b, b < n → (e b).k = 1 → b ∈ ended e n ∨ opn e n (e b).th = some b
  | 0, _, b, hb, _ => by omega
  | n + 1, hr, b, hb, hk => by
    rw [right, Bool.and_eq_true] at hr
    have ih := begun_all e n hr.1 b
    have hm := hr.2
    unfold may at hm
    by_cases hbn : b = n
    · subst hbn
      right
      unfold opn
      rw [if_pos rfl, if_pos hk]
    · have keep : b ∈ ended e n → b ∈ ended e (n + 1) := fun h => by
        unfold ended
        cases ho : opn e n (e n).th with
        | none => exact h
        | some c =>
          dsimp only
          split
          · exact List.mem_append_left _ h
          · exact h
      rcases ih (by omega) hk with h | h
      · exact .inl (keep h)
      · by_cases hth : (e n).th = (e b).th
        · rw [← hth] at h
          rw [h] at hm
          by_cases h56 : (e n).k = 5 ∨ (e n).k = 6
          · left
            unfold ended
            rw [h]
            dsimp only
            rw [if_pos h56]
            simp
          · right
            have h1 : (e n).k ≠ 1 := by
              intro h1
              simp [h1] at hm
            unfold opn
            rw [if_pos hth, if_neg h1, if_neg h56, ← hth]
            exact h
        · right
          unfold opn
          rw [if_neg hth]
          exact h

theorem begins_mem (e : Evs) (n b : Nat) : b ∈ begins e n ↔ b < n ∧ (e b).k = 1 := by
  unfold begins
  simp
theorem begins_nodup (e : Evs) (n : Nat) : (begins e n).Nodup := List.nodup_range.filter _

/-- The ended ones and, in whatever order, those that go on: the tries of a right trace, all of them. -/
theorem all_perm (e : Evs) (n : Nat) (hr : right e n = true) (rest : List Nat) (hn : rest.Nodup) (hm : ∀ b, b ∈ rest ↔ ∃ th, opn e n th = some b) : (ended e n ++ rest).Perm (begins e n) := by
  have hno : ∀ b, b ∈ ended e n → b ∉ rest := fun b h1 h2 => by
    obtain ⟨th, h⟩ := (hm b).1 h2
    have h3 := ended_spec e n b h1
    rw [(opn_spec e _ _ _ h).2.2.1] at h3
    exact h3.2.2.2.2 h
  refine (List.perm_ext_iff_of_nodup (List.nodup_append.2 ⟨ended_nodup e n, hn, fun a ha b hb hab => hno a ha (hab ▸ hb)⟩) (begins_nodup e n)).2 fun b => ?_
  rw [begins_mem, List.mem_append]
  constructor
  · rintro (h | h)
    · have := ended_spec e n b h
      exact ⟨this.1, this.2.1⟩
    · obtain ⟨th, h⟩ := (hm b).1 h
      have := opn_spec e _ _ _ h
      exact ⟨this.1, this.2.1⟩
  · rintro ⟨h1, h2⟩
    rcases begun_all e n hr b h1 h2 with h | h
    · exact .inl h
    · exact .inr ((hm b).2 ⟨_, h⟩)

theorem tries_sorted (e : Evs) (n : Nat) : (tries e n).Pairwise (fun x y => x.b < y.b) := by
  unfold tries begins
  rw [List.pairwise_map]
  refine List.Pairwise.filter _ (List.pairwise_lt_range.imp ?_)
  intro a b h
  rw [(trAt_fix e a n).2.2.2.2, (trAt_fix e b n).2.2.2.2]
  omega

/-- Two rows of the same tries, the one sorted by a number that no two of the other one share: one row. -/
theorem sorted_one {α : Type} (f : α → Int) {d t : List α} (hp : d.Perm t) (ht : t.Pairwise (fun x y => f x < f y)) (hd : d.Pairwise (fun x y => ¬ f y < f x)) : d = t := by
  refine List.Perm.eq_of_pairwise (le := fun x y => f x ≤ f y) ?_ (hd.imp fun h => by omega) (ht.imp fun h => by omega) hp
  intro a b ha hb h1 h2
  have ha' := hp.mem_iff.1 ha
  obtain ⟨i, hi, rfl⟩ := List.mem_iff_getElem.1 ha'
  obtain ⟨j, hj, rfl⟩ := List.mem_iff_getElem.1 hb
  have hpw := List.pairwise_iff_getElem.1 ht
  rcases Nat.lt_trichotomy i j with h | h | h
  · have := hpw i j hi hj h; omega
  · subst h; rfl
  · have := hpw j i hj hi h; omega
end Go.Proofs.Ytdohepenmejcaaa.base
