/- Texts of one's own, one behind the other: Hm, Mm, HmR, Hp, Hq, Op, OpB, Open, Base, Grow, Map, MapG, Hr, Own, LangM, RdM, Hg, HgR, HgM. -/
import Derived.Test.YtkidkhjpijjphaaProg
import Derived.WalkKit
import Derived.ProofKit
import Derived.OpenShut
import Derived.ShutString
import Derived.ChangeOld
import Derived.Below
import Derived.Deep.Grids
import Derived.Handy
import Derived.Lib.Hide
import Derived.BigQuiet
import Derived.Deep.QuietTactic
import Derived.ArgAppend
import Derived.Deep.RegionLaw
import Derived.Maps.OwnSet
import Derived.Maps.OwnIn
import Derived.Maps.RangeWalk
import Derived.DeepKeys4
import Derived.WideKeyPair
import Derived.Deep.RegionHeld3
import Derived.Deep.RegionHeld
import Derived.Deep.AppendSrc
import Derived.Deep.Upon
import Derived.Deep.RegionHeldLaw
import Derived.Deep.CutRange
import Derived.Deep.DeepCutAuto
/- What happened, attempt by attempt, in plain numbers: traces, tries, and in which order they come. Of no program, and of no memory. -/
namespace Go.Proofs.Ytkidkhjpijjphaa.base
open Go

/-- An event: kind, thread, transaction, attempt, object, value, reason. -/
structure Ev where
  k : Int
  th : Int
  tx : Int
  at_ : Int
  ob : Int
  va : Int
  re : Int
deriving Inhabited, DecidableEq

abbrev Evs := Nat → Ev

/-- Where the try of a thread that goes on ahead of a place began. -/
def opn (e : Evs) : Nat → Int → Option Nat
  | 0, _ => none
  | i + 1, th => if (e i).th = th then (if (e i).k = 1 then some i else if (e i).k = 5 ∨ (e i).k = 6 then none else opn e i th) else opn e i th

/-- The attempt of a transaction's last EvBegin ahead of a place. -/
def cnt (e : Evs) : Nat → Int → Int → Int
  | 0, _, _ => 0
  | i + 1, th, tx => if (e i).k = 1 ∧ (e i).th = th ∧ (e i).tx = tx then (e i).at_ else cnt e i th tx

/-- May the event at a place come? -/
def may (e : Evs) (i : Nat) : Bool :=
  match opn e i (e i).th with
  | none => ((e i).k == 1 && (e i).at_ == IntKind.i64.wrap (cnt e i (e i).th (e i).tx + 1)) || (e i).k == 7
  | some b => decide (2 ≤ (e i).k) && decide ((e i).k ≤ 6) && (e i).tx == (e b).tx && (e i).at_ == (e b).at_

def right (e : Evs) : Nat → Bool
  | 0 => true
  | i + 1 => right e i && may e i

/-- An access: place, kind, object, value; own; released. -/
structure Acc where
  pl : Int
  k : Int
  ob : Int
  va : Int
  own : Bool
  rel : Bool
deriving Inhabited, DecidableEq

structure Tr where
  th : Int
  tx : Int
  at_ : Int
  st : Int
  b : Int
  en : Int
  re : Int
  co : Bool
  ac : List Acc
deriving Inhabited, DecidableEq

def wrote (l : List Acc) (o : Int) : Bool := l.any fun a => decide (a.k = 3) && decide (a.ob = o)
/-- The places among the accesses of the readings of an object that aren't released. -/
def readsAt (o : Int) : Nat → List Acc → List Nat
  | _, [] => []
  | n, a :: l => if a.k = 2 ∧ a.ob = o ∧ a.rel = false then n :: readsAt o (n + 1) l else readsAt o (n + 1) l
def Acc.free (o : Int) (a : Acc) : Acc := if a.k = 2 ∧ a.ob = o then { a with rel := true } else a
def relAll (l : List Acc) (o : Int) : List Acc := l.map (Acc.free o)

def stepT (t : Tr) (i : Nat) (e : Ev) : Tr :=
  if e.k = 2 then { t with ac := t.ac ++ [⟨i, 2, e.ob, e.va, wrote t.ac e.ob, false⟩] }
  else if e.k = 3 then { t with ac := t.ac ++ [⟨i, 3, e.ob, e.va, false, false⟩] }
  else if e.k = 4 then { t with ac := relAll t.ac e.ob }
  else if e.k = 5 then { t with en := i, co := true }
  else if e.k = 6 then { t with en := i, re := e.re }
  else t

def init (b : Nat) (e : Ev) : Tr := ⟨e.th, e.tx, e.at_, e.va, b, -1, 0, false, []⟩

/-- The try that began at place b, as it is ahead of a place. -/
def trAt (e : Evs) (b : Nat) : Nat → Tr
  | 0 => init b (e b)
  | i + 1 => if b < i ∧ (e i).th = (e b).th ∧ (trAt e b i).en < 0 then stepT (trAt e b i) i (e i) else trAt e b i

/-- The tries that have ended ahead of a place, in that order, by their beginnings. -/
def ended (e : Evs) : Nat → List Nat
  | 0 => []
  | i + 1 => match opn e i (e i).th with
    | some b => if (e i).k = 5 ∨ (e i).k = 6 then ended e i ++ [b] else ended e i
    | none => ended e i

/-- The tries in the order of their beginnings. -/
def begins (e : Evs) (n : Nat) : List Nat := (List.range n).filter fun i => decide ((e i).k = 1)
def tries (e : Evs) (n : Nat) : List Tr := (begins e n).map fun b => trAt e b n
/-- Those that committed, in the order of their ends. -/
def comms (e : Evs) (n : Nat) : List Tr := (List.range n).filterMap fun i => if (e i).k = 5 then (opn e i (e i).th).map fun b => trAt e b n else none
def before (e : Evs) : Nat → Nat
  | 0 => 0
  | i + 1 => before e i + (if (e i).k = 5 then 1 else 0)

theorem stepT_fix (t : Tr) (i : Nat) (e : Ev) : (stepT t i e).th = t.th ∧ (stepT t i e).tx = t.tx ∧ (stepT t i e).at_ = t.at_ ∧ (stepT t i e).st = t.st ∧ (stepT t i e).b = t.b := by
  unfold stepT
  repeat' split
  all_goals exact ⟨rfl, rfl, rfl, rfl, rfl⟩
theorem stepT_en (t : Tr) (i : Nat) (e : Ev) : (stepT t i e).en = if e.k = 5 ∨ e.k = 6 then (i : Int) else t.en := by
  unfold stepT
  by_cases h2 : e.k = 2
  · simp [h2]
  by_cases h3 : e.k = 3
  · simp [h3]
  by_cases h4 : e.k = 4
  · simp [h4]
  by_cases h5 : e.k = 5
  · simp [h5]
  by_cases h6 : e.k = 6
  · simp [h6]
  simp [h2, h3, h4, h5, h6]

theorem trAt_fix (e : Evs) (b : Nat) : ∀ i, (trAt e b i).th = (e b).th ∧ (trAt e b i).tx = (e b).tx ∧ (trAt e b i).at_ = (e b).at_ ∧ (trAt e b i).st = (e b).va ∧ (trAt e b i).b = b
  | 0 => ⟨rfl, rfl, rfl, rfl, rfl⟩
  | i + 1 => by
    have h := trAt_fix e b i
    unfold trAt
    split
    · obtain ⟨h1, h2, h3, h4, h5⟩ := stepT_fix (trAt e b i) i (e i)
      exact ⟨h1.trans h.1, h2.trans h.2.1, h3.trans h.2.2.1, h4.trans h.2.2.2.1, h5.trans h.2.2.2.2⟩
    · exact h

theorem trAt_init (e : Evs) (b : Nat) : ∀ i, i ≤ b + 1 → trAt e b i = init b (e b)
  | 0, _ => rfl
  | i + 1, h => by
    unfold trAt
    rw [if_neg (by omega)]
    exact trAt_init e b i (by omega)

theorem opn_spec (e : Evs) : ∀ (i : Nat) (th : Int) (b : Nat), opn e i th = some b → b < i ∧ (e b).k = 1 ∧ (e b).th = th ∧ (trAt e b i).en = -1
  | 0, th, b, h => by simp [opn] at h
  | i + 1, th, b, h => by
    unfold opn at h
    have ih := opn_spec e i th b
    split at h
    · next hth =>
      split at h
      · next h1 =>
        cases h
        exact ⟨by omega, h1, hth, by rw [trAt_init _ _ _ (Nat.le_refl _)]; rfl⟩
      · next h1 =>
        split at h
        · cases h
        · next h56 =>
          obtain ⟨a1, a2, a3, a4⟩ := ih h
          refine ⟨by omega, a2, a3, ?_⟩
          rw [trAt]
          split
          · rw [stepT_en, if_neg h56, a4]
          · exact a4
    · next hth =>
      obtain ⟨a1, a2, a3, a4⟩ := ih h
      refine ⟨by omega, a2, a3, ?_⟩
      rw [trAt, if_neg (by rw [a3]; simp [hth]), a4]

/-- What an event of a thread that is at a try does to it. -/
theorem trAt_step (e : Evs) {i b : Nat} (h : opn e i (e i).th = some b) : trAt e b (i + 1) = stepT (trAt e b i) i (e i) := by
  obtain ⟨a1, a2, a3, a4⟩ := opn_spec e i _ b h
  rw [trAt]
  by_cases hb : b < i
  · rw [if_pos ⟨hb, a3.symm, by rw [a4]; omega⟩]
  · omega
theorem trAt_other (e : Evs) {i b : Nat} {th : Int} (h : opn e i th = some b) (hth : (e i).th ≠ th) : trAt e b (i + 1) = trAt e b i := by
  obtain ⟨a1, a2, a3, a4⟩ := opn_spec e i _ b h
  rw [trAt, if_neg (by rw [a3]; simp [hth])]

theorem trAt_done (e : Evs) (b : Nat) {i : Nat} (h : 0 ≤ (trAt e b i).en) : ∀ j, trAt e b (i + j) = trAt e b i
  | 0 => rfl
  | j + 1 => by
    have ih := trAt_done e b h j
    rw [← Nat.add_assoc, trAt, ih, if_neg (by omega)]
theorem trAt_end (e : Evs) (b : Nat) {i n : Nat} (h : 0 ≤ (trAt e b i).en) (hn : i ≤ n) : trAt e b n = trAt e b i := by
  have := trAt_done e b h (n - i)
  rwa [show i + (n - i) = n by omega] at this

/-- An end: the try that is open ends here. -/
theorem trAt_ends (e : Evs) {i b : Nat} (h : opn e i (e i).th = some b) (h56 : (e i).k = 5 ∨ (e i).k = 6) : (trAt e b (i + 1)).en = i := by
  rw [trAt_step e h, stepT_en, if_pos h56]

theorem right_le (e : Evs) {n : Nat} (h : right e n = true) : ∀ m, m ≤ n → right e m = true := by
  induction n with
  | zero => intro m hm; rw [show m = 0 by omega]; rfl
  | succ n ih =>
    intro m hm
    rw [right, Bool.and_eq_true] at h
    by_cases hmn : m = n + 1
    · subst hmn; rw [right, h.1, h.2]; rfl
    · exact ih h.1 m (by omega)
theorem right_may (e : Evs) {n : Nat} (h : right e n = true) {i : Nat} (hi : i < n) : may e i = true := by
  have := right_le e h (i + 1) (by omega)
  rw [right, Bool.and_eq_true] at this
  exact this.2

/-- What ended has its end where it was. -/
theorem ended_spec (e : Evs) : ∀ n, ∀ b ∈ ended e n, b < n ∧ (e b).k = 1 ∧ 0 ≤ (trAt e b n).en ∧ (trAt e b n).en < n ∧ opn e n (e b).th ≠ some b
  | 0, b, h => by simp [ended] at h
  | n + 1, b, h => by
    have ih := ended_spec e n
    have old : b ∈ ended e n → b < n + 1 ∧ (e b).k = 1 ∧ 0 ≤ (trAt e b (n + 1)).en ∧ (trAt e b (n + 1)).en < (n + 1 : Nat) ∧ opn e (n + 1) (e b).th ≠ some b := fun hm => by
      obtain ⟨a1, a2, a3, a4, a5⟩ := ih b hm
      rw [trAt_end e b a3 (Nat.le_succ n)]
      refine ⟨by omega, a2, a3, by omega, fun ho => ?_⟩
      have := (opn_spec e _ _ _ ho).2.2.2
      rw [trAt_end e b a3 (Nat.le_succ n)] at this
      omega
    unfold ended at h
    cases ho : opn e n (e n).th with
    | none => rw [ho] at h; exact old h
    | some c =>
      rw [ho] at h
      dsimp only at h
      split at h
      · next h56 =>
        rcases List.mem_append.1 h with h | h
        · exact old h
        · have hb : b = c := by simpa using h
          subst hb
          obtain ⟨a1, a2, a3, a4⟩ := opn_spec e _ _ _ ho
          have := trAt_ends e ho h56
          refine ⟨by omega, a2, by omega, by omega, fun h2 => ?_⟩
          have := (opn_spec e _ _ _ h2).2.2.2
          omega
      · exact old h

theorem ended_nodup (e : Evs) : ∀ n, (ended e n).Nodup
  | 0 => List.nodup_nil
  | n + 1 => by
    unfold ended
    cases ho : opn e n (e n).th with
    | none => exact ended_nodup e n
    | some c =>
      dsimp only
      split
      · refine List.nodup_append.2 ⟨ended_nodup e n, by simp, ?_⟩
        intro a ha b hb hab
        have hbc : b = c := by simpa using hb
        subst hbc; subst hab
        have h1 := ended_spec e n _ ha
        rw [(opn_spec e _ _ _ ho).2.2.1] at h1
        exact h1.2.2.2.2 ho
      · exact ended_nodup e n

/-- In a right trace each try has ended, or goes on. -/
theorem begun_all (e : Evs) : ∀ n, right e n = true → ∀ b, b < n → (e b).k = 1 → b ∈ ended e n ∨ opn e n (e b).th = some b
  | 0, _, b, hb, _ => by omega
  | n + 1, hr, b, hb, hk => by
    rw [right, Bool.and_eq_true] at hr
    have ih := begun_all e n hr.1 b
    have hm := hr.2
    unfold may at hm
    by_cases hbn : b = n
    · subst hbn
      right
      unfold opn
      rw [if_pos rfl, if_pos hk]
    · have keep : b ∈ ended e n → b ∈ ended e (n + 1) := fun h => by
        unfold ended
        cases ho : opn e n (e n).th with
        | none => exact h
        | some c =>
          dsimp only
          split
          · exact List.mem_append_left _ h
          · exact h
      rcases ih (by omega) hk with h | h
      · exact .inl (keep h)
      · by_cases hth : (e n).th = (e b).th
        · rw [← hth] at h
          rw [h] at hm
          by_cases h56 : (e n).k = 5 ∨ (e n).k = 6
          · left
            unfold ended
            rw [h]
            dsimp only
            rw [if_pos h56]
            simp
          · right
            have h1 : (e n).k ≠ 1 := by
              intro h1
              simp [h1] at hm
            unfold opn
            rw [if_pos hth, if_neg h1, if_neg h56, ← hth]
            exact h
        · right
          unfold opn
          rw [if_neg hth]
          exact h

theorem begins_mem (e : Evs) (n b : Nat) : b ∈ begins e n ↔ b < n ∧ (e b).k = 1 := by
  unfold begins
  simp
theorem begins_nodup (e : Evs) (n : Nat) : (begins e n).Nodup := List.nodup_range.filter _

/-- The ended ones and, in whatever order, those that go on: the tries of a right trace, all of them. -/
theorem all_perm (e : Evs) (n : Nat) (hr : right e n = true) (rest : List Nat) (hn : rest.Nodup) (hm : ∀ b, b ∈ rest ↔ ∃ th, opn e n th = some b) : (ended e n ++ rest).Perm (begins e n) := by
  have hno : ∀ b, b ∈ ended e n → b ∉ rest := fun b h1 h2 => by
    obtain ⟨th, h⟩ := (hm b).1 h2
    have h3 := ended_spec e n b h1
    rw [(opn_spec e _ _ _ h).2.2.1] at h3
    exact h3.2.2.2.2 h
  refine (List.perm_ext_iff_of_nodup (List.nodup_append.2 ⟨ended_nodup e n, hn, fun a ha b hb hab => hno a ha (hab ▸ hb)⟩) (begins_nodup e n)).2 fun b => ?_
  rw [begins_mem, List.mem_append]
  constructor
  · rintro (h | h)
    · have := ended_spec e n b h
      exact ⟨this.1, this.2.1⟩
    · obtain ⟨th, h⟩ := (hm b).1 h
      have := opn_spec e _ _ _ h
      exact ⟨this.1, this.2.1⟩
  · rintro ⟨h1, h2⟩
    rcases begun_all e n hr b h1 h2 with h | h
    · exact .inl h
    · exact .inr ((hm b).2 ⟨_, h⟩)

theorem tries_sorted (e : Evs) (n : Nat) : (tries e n).Pairwise (fun x y => x.b < y.b) := by
  unfold tries begins
  rw [List.pairwise_map]
  refine List.Pairwise.filter _ (List.pairwise_lt_range.imp ?_)
  intro a b h
  rw [(trAt_fix e a n).2.2.2.2, (trAt_fix e b n).2.2.2.2]
  omega

/-- Two rows of the same tries, the one sorted by a number that no two of the other one share: one row. -/
theorem sorted_one {α : Type} (f : α → Int) {d t : List α} (hp : d.Perm t) (ht : t.Pairwise (fun x y => f x < f y)) (hd : d.Pairwise (fun x y => ¬ f y < f x)) : d = t := by
  refine List.Perm.eq_of_pairwise (le := fun x y => f x ≤ f y) ?_ (hd.imp fun h => by omega) (ht.imp fun h => by omega) hp
  intro a b ha hb h1 h2
  have ha' := hp.mem_iff.1 ha
  obtain ⟨i, hi, rfl⟩ := List.mem_iff_getElem.1 ha'
  obtain ⟨j, hj, rfl⟩ := List.mem_iff_getElem.1 hb
  have hpw := List.pairwise_iff_getElem.1 ht
  rcases Nat.lt_trichotomy i j with h | h | h
  · have := hpw i j hi hj h; omega
  · subst h; rfl
  · have := hpw j i hj hi h; omega
end Go.Proofs.Ytkidkhjpijjphaa.base

/- What committed ones make of the objects, in plain numbers: of no program, and of no memory. -/
namespace Go.Proofs.Ytkidkhjpijjphaa.base
open Go

/-- One access, done to values. -/
def app1 (a : Acc) (z : Nat → Int) : Nat → Int := fun o => if a.k = 3 ∧ a.ob = (o : Int) then a.va else z o
/-- A try applied. -/
def app (z : Nat → Int) (l : List Acc) : Nat → Int := l.foldl (fun z a => app1 a z) z

theorem app_snoc (z : Nat → Int) (l : List Acc) (a : Acc) : app z (l ++ [a]) = app1 a (app z l) := by simp [app]
theorem app_take (z : Nat → Int) {l : List Acc} {k : Nat} {a : Acc} (h : l[k]? = some a) : app z (l.take (k + 1)) = app1 a (app z (l.take k)) := by
  rw [List.take_add_one, h]
  exact app_snoc _ _ _
theorem app_zero (z : Nat → Int) (l : List Acc) : app z (l.take 0) = z := rfl
theorem app_all (z : Nat → Int) (l : List Acc) : app z (l.take l.length) = app z l := by rw [List.take_length]
theorem app1_no {a : Acc} (z : Nat → Int) (h : a.k ≠ 3) : app1 a z = z := by
  funext o
  unfold app1
  rw [if_neg (fun h2 => h h2.1)]
theorem app1_out {a : Acc} (z : Nat → Int) (h : a.ob < 0) : app1 a z = z := by
  funext o
  unfold app1
  rw [if_neg (by omega)]
theorem app1_in {a : Acc} (z : Nat → Int) {i : Nat} (h : a.k = 3) (ho : a.ob = (i : Int)) : app1 a z = fun o => if o = i then a.va else z o := by
  funext o
  unfold app1
  by_cases e : o = i
  · subst e; rw [if_pos ⟨h, ho⟩, if_pos rfl]
  · rw [if_neg (by omega), if_neg e]

/-- What was written last to an object. -/
def lastW (l : List Acc) (o : Int) : Option Int := l.foldl (fun r a => if a.k = 3 ∧ a.ob = o then some a.va else r) none
theorem lastW_snoc (l : List Acc) (a : Acc) (o : Int) : lastW (l ++ [a]) o = if a.k = 3 ∧ a.ob = o then some a.va else lastW l o := by simp [lastW]
theorem lastW_take {l : List Acc} {k : Nat} {a : Acc} (h : l[k]? = some a) (o : Int) : lastW (l.take (k + 1)) o = if a.k = 3 ∧ a.ob = o then some a.va else lastW (l.take k) o := by
  rw [List.take_add_one, h]
  exact lastW_snoc _ _ _
theorem foldl_or (l : List Acc) (o : Int) : ∀ r : Option Int, l.foldl (fun r a => if a.k = 3 ∧ a.ob = o then some a.va else r) r = (lastW l o).or r := by
  induction l with
  | nil => intro r; rfl
  | cons a l ih =>
    intro r
    simp only [lastW, List.foldl_cons]
    rw [ih, ih (if a.k = 3 ∧ a.ob = o then some a.va else none)]
    split <;> cases lastW l o <;> rfl
theorem lastW_cons (l : List Acc) (a : Acc) (o : Int) : lastW (a :: l) o = (lastW l o).or (if a.k = 3 ∧ a.ob = o then some a.va else none) := by
  unfold lastW
  rw [List.foldl_cons, foldl_or]
  rfl
theorem app_last (l : List Acc) : ∀ (z : Nat → Int) (o : Nat), app z l o = (lastW l o).getD (z o) := by
  induction l with
  | nil => intro z o; rfl
  | cons a l ih =>
    intro z o
    have h : app z (a :: l) = app (app1 a z) l := rfl
    rw [h, ih, lastW_cons]
    cases lastW l o with
    | some v => rfl
    | none =>
      unfold app1
      split <;> rfl
theorem lastW_some {l : List Acc} {o v : Int} (h : lastW l o = some v) : ∃ a ∈ l, a.k = 3 ∧ a.ob = o ∧ a.va = v := by
  induction l with
  | nil => cases h
  | cons a l ih =>
    rw [lastW_cons] at h
    cases hl : lastW l o with
    | some u =>
      rw [hl] at h
      obtain ⟨b, hb, h1⟩ := ih (by rw [hl]; exact h)
      exact ⟨b, List.mem_cons_of_mem _ hb, h1⟩
    | none =>
      rw [hl] at h
      by_cases hc : a.k = 3 ∧ a.ob = o
      · rw [if_pos hc] at h
        injection h with h
        exact ⟨a, by simp, hc.1, hc.2, h⟩
      · rw [if_neg hc] at h; cases h

/-- Twice as once. -/
theorem app_twice (z : Nat → Int) (l : List Acc) : app (app z l) l = app z l := by
  funext o
  rw [app_last, app_last]
  cases lastW l o <;> rfl
/-- Two that write no object both. -/
theorem app_apart (z : Nat → Int) (l m : List Acc) (h : ∀ a ∈ l, ∀ b ∈ m, a.k = 3 → b.k = 3 → a.ob ≠ b.ob) : app (app z l) m = app (app z m) l := by
  funext o
  rw [app_last, app_last, app_last, app_last]
  cases hl : lastW l o with
  | none => cases lastW m o <;> rfl
  | some u =>
    cases hm : lastW m o with
    | none => rfl
    | some v =>
      obtain ⟨a, ha, a1, a2, _⟩ := lastW_some hl
      obtain ⟨b, hb, b1, b2, _⟩ := lastW_some hm
      exact absurd (a2.trans b2.symm) (h a ha b hb a1 b1)

/-- Does a reading tell what it should? -/
def tellsB (n : Nat) (z : Nat → Int) (w : Option Int) (a : Acc) : Bool :=
  match w with
  | some v => a.own && a.va == v
  | none => !a.own && decide (0 ≤ a.ob) && decide (a.ob < (n : Int)) && a.va == z a.ob.toNat
/-- Does an access, if it is a reading that isn't released? -/
def readOk (n : Nat) (z : Nat → Int) (w : Option Int) (a : Acc) : Bool := if a.k = 2 ∧ a.rel = false then tellsB n z w a else true
/-- Do the first k? -/
def fitsN (n : Nat) (z : Nat → Int) (l : List Acc) : Nat → Bool
  | 0 => true
  | k + 1 => fitsN n z l k && (match l[k]? with | none => true | some a => readOk n z (lastW (l.take k) a.ob) a)
def fits (n : Nat) (z : Nat → Int) (l : List Acc) : Bool := fitsN n z l l.length

theorem fitsN_step {n : Nat} {z : Nat → Int} {l : List Acc} {k : Nat} {a : Acc} (h : l[k]? = some a) : fitsN n z l (k + 1) = (fitsN n z l k && readOk n z (lastW (l.take k) a.ob) a) := by
  rw [fitsN, h]
theorem fitsN_iff {n : Nat} {z : Nat → Int} {l : List Acc} : ∀ {k : Nat}, fitsN n z l k = true ↔ ∀ i a, i < k → l[i]? = some a → readOk n z (lastW (l.take i) a.ob) a = true
  | 0 => by
    constructor
    · intro _ i a hi; omega
    · intro _; rfl
  | k + 1 => by
    rw [fitsN, Bool.and_eq_true, fitsN_iff (k := k)]
    constructor
    · rintro ⟨h1, h2⟩ i a hi ha
      by_cases e : i = k
      · subst e; rw [ha] at h2; exact h2
      · exact h1 i a (by omega) ha
    · intro h
      refine ⟨fun i a hi ha => h i a (by omega) ha, ?_⟩
      cases hk : l[k]? with
      | none => rfl
      | some a => exact h k a (by omega) hk
theorem fits_bad {n : Nat} {z : Nat → Int} {l : List Acc} {k : Nat} {a : Acc} (h : l[k]? = some a) (hb : readOk n z (lastW (l.take k) a.ob) a = false) : fits n z l = false := by
  cases e : fits n z l with
  | false => rfl
  | true =>
    have := fitsN_iff.1 e k a (List.getElem?_eq_some_iff.1 h).1 h
    rw [hb] at this
    cases this

/-- A reading of an object that counts, and isn't own. -/
def readsO (l : List Acc) (o : Int) : Nat → Bool
  | 0 => false
  | k + 1 => readsO l o k || (match l[k]? with | none => false | some a => decide (a.k = 2) && decide (a.ob = o) && !a.rel && !a.own)
theorem readsO_step {l : List Acc} {o : Int} {k : Nat} {a : Acc} (h : l[k]? = some a) : readsO l o (k + 1) = (readsO l o k || (decide (a.k = 2) && decide (a.ob = o) && !a.rel && !a.own)) := by
  rw [readsO, h]
theorem readsO_iff {l : List Acc} {o : Int} : ∀ {k : Nat}, readsO l o k = true ↔ ∃ i a, i < k ∧ l[i]? = some a ∧ a.k = 2 ∧ a.ob = o ∧ a.rel = false ∧ a.own = false
  | 0 => by
    constructor
    · intro h; cases h
    · rintro ⟨i, _, h, _⟩; omega
  | k + 1 => by
    rw [readsO, Bool.or_eq_true, readsO_iff (k := k)]
    constructor
    · rintro (⟨i, a, h1, h2⟩ | h)
      · exact ⟨i, a, by omega, h2⟩
      · cases hk : l[k]? with
        | none => rw [hk] at h; cases h
        | some a =>
          rw [hk] at h
          simp at h
          exact ⟨k, a, by omega, hk, h.1.1.1, h.1.1.2, h.1.2, h.2⟩
    · rintro ⟨i, a, h1, h2, h3, h4, h5, h6⟩
      by_cases e : i = k
      · subst e
        right
        rw [h2]
        simp [h3, h4, h5, h6]
      · exact .inl ⟨i, a, by omega, h2, h3, h4, h5, h6⟩

/-- Objects that it didn't read play no part. -/
theorem fits_other {n : Nat} {z y : Nat → Int} {l : List Acc} {o : Nat} (h : readsO l o l.length = false) (hz : ∀ i, i ≠ o → z i = y i) : fits n z l = fits n y l := by
  have key : ∀ z y : Nat → Int, (∀ i, i ≠ o → z i = y i) → fits n z l = true → fits n y l = true := by
    intro z y hz hf
    refine fitsN_iff.2 fun i a hi ha => ?_
    have h0 := fitsN_iff.1 hf i a hi ha
    unfold readOk at h0 ⊢
    by_cases hc : a.k = 2 ∧ a.rel = false
    · rw [if_pos hc] at h0 ⊢
      unfold tellsB at h0 ⊢
      cases hl : lastW (l.take i) a.ob with
      | some v => rw [hl] at h0; exact h0
      | none =>
        rw [hl] at h0
        dsimp only at h0 ⊢
        cases hw : a.own with
        | true => rw [hw] at h0; simp at h0
        | false =>
          have hne : a.ob ≠ (o : Int) := fun e => by
            have : readsO l o l.length = true := readsO_iff.2 ⟨i, a, hi, ha, hc.1, e, hc.2, hw⟩
            rw [h] at this
            cases this
          rw [hw] at h0
          simp at h0
          rw [← hz a.ob.toNat (by omega)]
          simp [h0]
    · rw [if_neg hc]
  cases e1 : fits n z l with
  | true => exact (key z y hz e1).symm
  | false =>
    cases e2 : fits n y l with
    | false => rfl
    | true =>
      rw [key y z (fun i hi => (hz i hi).symm) e2] at e1
      cases e1
/-- What it read that isn't there doesn't fit. -/
theorem fits_both {n : Nat} {z y : Nat → Int} {l : List Acc} {o : Nat} (h : readsO l o l.length = true) (h1 : fits n z l = true) (h2 : fits n y l = true) : z o = y o := by
  obtain ⟨i, a, hi, ha, a1, a2, a3, a4⟩ := readsO_iff.1 h
  have f1 := fitsN_iff.1 h1 i a hi ha
  have f2 := fitsN_iff.1 h2 i a hi ha
  unfold readOk at f1 f2
  rw [if_pos ⟨a1, a3⟩] at f1 f2
  unfold tellsB at f1 f2
  cases hl : lastW (l.take i) a.ob with
  | some v => rw [hl] at f1; simp [a4] at f1
  | none =>
    rw [hl] at f1 f2
    simp [a4, a2] at f1 f2
    rw [← f1.2, ← f2.2]

/-- The values behind the first i tries. -/
def stAt (z : Nat → Int) (c : List (List Acc)) (i : Nat) : Nat → Int := (c.take i).foldl app z
theorem stAt_zero (z : Nat → Int) (c : List (List Acc)) : stAt z c 0 = z := rfl
theorem stAt_step (z : Nat → Int) {c : List (List Acc)} {i : Nat} {l : List Acc} (h : c[i]? = some l) : stAt z c (i + 1) = app (stAt z c i) l := by
  unfold stAt
  rw [List.take_add_one, h]
  simp
theorem stAt_append (z : Nat → Int) (c d : List (List Acc)) {i : Nat} (h : i ≤ c.length) : stAt z (c ++ d) i = stAt z c i := by
  unfold stAt
  rw [List.take_append_of_le_length h]
end Go.Proofs.Ytkidkhjpijjphaa.base

/- The document's own answers of chapter 17, in plain numbers, and that they are those of XHm. Of no program, and of no memory. -/
namespace Go.Proofs.Ytkidkhjpijjphaa.base
open Go

/-- The place of a thread's last EvBegin ahead of a place; -1: none. -/
def lastI (e : Evs) : Nat → Int → Int
  | 0, _ => -1
  | i + 1, th => if (e i).k = 1 ∧ (e i).th = th then (i : Int) else lastI e i th
/-- No end of the thread of place b's event stands between b and a place. -/
def openB (e : Evs) (b : Nat) : Nat → Bool
  | 0 => true
  | i + 1 => openB e b i && !(decide (b < i) && (decide ((e i).th = (e b).th) && (decide ((e i).k = 5) || decide ((e i).k = 6))))

theorem lastI_lt (e : Evs) : ∀ i th, -1 ≤ lastI e i th ∧ lastI e i th < i
  | 0, th => ⟨by simp [lastI], by simp [lastI]⟩
  | i + 1, th => by
    have := lastI_lt e i th
    unfold lastI
    split <;> omega
theorem openB_self (e : Evs) (b : Nat) : ∀ i, i ≤ b + 1 → openB e b i = true
  | 0, _ => rfl
  | i + 1, h => by
    rw [openB, openB_self e b i (by omega)]
    simp
    omega

theorem opn_ref (e : Evs) : ∀ i th, opn e i th = if 0 ≤ lastI e i th ∧ openB e (lastI e i th).toNat i = true then some (lastI e i th).toNat else none
  | 0, th => by simp [opn, lastI]
  | i + 1, th => by
    have ih := opn_ref e i th
    have hl := lastI_lt e i th
    have hspec : 0 ≤ lastI e i th → (e (lastI e i th).toNat).th = th := by
      clear ih hl
      induction i with
      | zero => simp [lastI]
      | succ i ih =>
        unfold lastI
        split
        · next h => intro _; simpa using h.2
        · exact ih
    have hself := openB_self e i (i + 1) (Nat.le_refl _)
    unfold opn
    by_cases hth : (e i).th = th
    · rw [if_pos hth]
      by_cases h1 : (e i).k = 1
      · have hl1 : lastI e (i + 1) th = (i : Int) := by rw [lastI, if_pos ⟨h1, hth⟩]
        rw [hl1, if_pos h1, Int.toNat_natCast, if_pos ⟨by omega, hself⟩]
      · have hl1 : lastI e (i + 1) th = lastI e i th := by rw [lastI, if_neg (fun h => h1 h.1)]
        rw [hl1, if_neg h1]
        by_cases h56 : (e i).k = 5 ∨ (e i).k = 6
        · rw [if_pos h56]
          by_cases h0 : 0 ≤ lastI e i th
          · rw [if_neg]
            rintro ⟨_, h2⟩
            rw [openB] at h2
            have h3 := hspec h0
            have h4 : (lastI e i th).toNat < i := by omega
            rcases h56 with h56 | h56 <;> simp [h4, h3, hth, h56] at h2
          · rw [if_neg (fun h => h0 h.1)]
        · rw [if_neg h56, ih]
          have : openB e (lastI e i th).toNat (i + 1) = openB e (lastI e i th).toNat i := by
            rw [openB]
            have h5 : ¬ (e i).k = 5 := fun h => h56 (.inl h)
            have h6 : ¬ (e i).k = 6 := fun h => h56 (.inr h)
            simp [h5, h6]
          rw [this]
    · have hl1 : lastI e (i + 1) th = lastI e i th := by rw [lastI, if_neg (fun h => hth h.2)]
      rw [hl1, if_neg hth, ih]
      by_cases h0 : 0 ≤ lastI e i th
      · have : openB e (lastI e i th).toNat (i + 1) = openB e (lastI e i th).toNat i := by
          rw [openB, hspec h0]
          simp [hth]
        rw [this]
      · rw [if_neg (fun h => h0 h.1), if_neg (fun h => h0 h.1)]

/-- Is an event of another one's attempt? -/
def ownE (b e : Ev) : Bool := decide (b.th = e.th) && decide (b.tx = e.tx) && decide (b.at_ = e.at_)

/-- The document's try of an EvBegin, ahead of a place. -/
def docAt (e : Evs) (b : Nat) : Nat → Tr
  | 0 => init b (e b)
  | i + 1 => if b < i ∧ ownE (e b) (e i) = true ∧ (docAt e b i).en < 0 then stepT (docAt e b i) i (e i) else docAt e b i

/-- In a right trace a try that has no end goes on. -/
theorem opn_of (e : Evs) {n b : Nat} (hr : right e n = true) (hb : b < n) (hk : (e b).k = 1) (hen : (trAt e b n).en < 0) : opn e n (e b).th = some b := by
  rcases begun_all e n hr b hb hk with h | h
  · have := ended_spec e n b h
    omega
  · exact h

theorem may_own (e : Evs) {i b : Nat} (h : may e i = true) (ho : opn e i (e i).th = some b) : ownE (e b) (e i) = true ∧ 2 ≤ (e i).k ∧ (e i).k ≤ 6 := by
  unfold may at h
  rw [ho] at h
  have := (opn_spec e _ _ _ ho).2.2.1
  simp at h
  unfold ownE
  simp [this, h.1.2, h.2]
  omega

theorem docAt_eq (e : Evs) (b : Nat) (hk : (e b).k = 1) : ∀ n, right e n = true → docAt e b n = trAt e b n
  | 0, _ => rfl
  | n + 1, hr => by
    have hr0 := hr
    rw [right, Bool.and_eq_true] at hr
    have ih := docAt_eq e b hk n hr.1
    rw [docAt, trAt, ih]
    by_cases hb : b < n
    · by_cases hen : (trAt e b n).en < 0
      · have ho := opn_of e hr.1 hb hk hen
        by_cases hth : (e n).th = (e b).th
        · rw [← hth] at ho
          rw [if_pos ⟨hb, (may_own e hr.2 ho).1, hen⟩, if_pos ⟨hb, hth, hen⟩]
        · rw [if_neg, if_neg (fun h => hth h.2.1)]
          rintro ⟨_, h, _⟩
          unfold ownE at h
          simp at h
          exact hth h.1.1.symm
      · rw [if_neg (fun h => hen h.2.2), if_neg (fun h => hen h.2.2)]
    · rw [if_neg (fun h => hb h.1), if_neg (fun h => hb h.1)]

theorem co_en (e : Evs) (b : Nat) : ∀ n, (trAt e b n).co = true → 0 ≤ (trAt e b n).en
  | 0, h => by simp [trAt, init] at h
  | n + 1, h => by
    rw [trAt] at h ⊢
    split
    · next hc =>
      rw [if_pos hc] at h
      rw [stepT_en]
      split
      · omega
      · next h56 =>
        have : (stepT (trAt e b n) n (e n)).co = (trAt e b n).co := by
          unfold stepT
          repeat' split
          all_goals first | rfl | (exfalso; apply h56; simp [*])
        rw [this] at h
        have := co_en e b n h
        omega
    · next hc =>
      rw [if_neg hc] at h
      exact co_en e b n h

/-- Where a try ended: an end of its thread, at which it was the one that went on. -/
theorem en_at (e : Evs) {b : Nat} (hk : (e b).k = 1) : ∀ n, right e n = true → b < n → 0 ≤ (trAt e b n).en → ∃ i, i < n ∧ (trAt e b n).en = (i : Int) ∧ opn e i (e i).th = some b ∧ ((e i).k = 5 ∨ (e i).k = 6) ∧ ((trAt e b n).co = true ↔ (e i).k = 5)
  | 0, _, h, _ => by omega
  | n + 1, hr, hb, h => by
    rw [right, Bool.and_eq_true] at hr
    by_cases hbn : b = n
    · subst hbn
      rw [trAt_init _ _ _ (Nat.le_refl _)] at h
      simp [init] at h
    · by_cases hen : (trAt e b n).en < 0
      · have ho := opn_of e hr.1 (by omega) hk hen
        rw [trAt] at h ⊢
        by_cases hth : (e n).th = (e b).th
        · rw [if_pos ⟨by omega, hth, hen⟩] at h ⊢
          rw [← hth] at ho
          by_cases h56 : (e n).k = 5 ∨ (e n).k = 6
          · refine ⟨n, by omega, by rw [stepT_en, if_pos h56], ho, h56, ?_⟩
            have hco : (trAt e b n).co ≠ true := fun h2 => by have := co_en e b n h2; omega
            rcases h56 with h5 | h6
            · simp [stepT, h5]
            · simp [stepT, h6, hco]
          · rw [stepT_en, if_neg h56] at h
            omega
        · rw [if_neg (fun h => hth h.2.1)] at h
          omega
      · have e1 : trAt e b (n + 1) = trAt e b n := by rw [trAt, if_neg (fun h => hen h.2.2)]
        rw [e1] at h ⊢
        obtain ⟨i, h1, h2⟩ := en_at e hk n hr.1 (by omega) h
        exact ⟨i, by omega, h2⟩

/-- The document's order: by the ends. -/
def commsD (e : Evs) (n : Nat) : List Tr := (List.range n).flatMap fun (i : Nat) => (tries e n).filter fun t => t.co && decide (t.en = (i : Int))

theorem tries_mem (e : Evs) (n : Nat) (t : Tr) : t ∈ tries e n ↔ ∃ b, b < n ∧ (e b).k = 1 ∧ trAt e b n = t := by
  unfold tries
  rw [List.mem_map]
  constructor
  · rintro ⟨b, h1, h2⟩
    obtain ⟨h3, h4⟩ := (begins_mem e n b).1 h1
    exact ⟨b, h3, h4, h2⟩
  · rintro ⟨b, h3, h4, h2⟩
    exact ⟨b, (begins_mem e n b).2 ⟨h3, h4⟩, h2⟩
theorem tries_nodup (e : Evs) (n : Nat) : (tries e n).Nodup := (tries_sorted e n).imp fun h h2 => by rw [h2] at h; omega

/-- One try an end. -/
theorem en_one (e : Evs) {n : Nat} (hr : right e n = true) {t u : Tr} (ht : t ∈ tries e n) (hu : u ∈ tries e n) (h0 : 0 ≤ t.en) (h : t.en = u.en) : t = u := by
  obtain ⟨b, h1, h2, rfl⟩ := (tries_mem e n t).1 ht
  obtain ⟨c, h3, h4, rfl⟩ := (tries_mem e n u).1 hu
  obtain ⟨i, _, hi, ho, _⟩ := en_at e h2 n hr h1 h0
  obtain ⟨j, _, hj, ho2, _⟩ := en_at e h4 n hr h3 (by omega)
  have : i = j := by omega
  subst this
  rw [ho] at ho2
  cases ho2
  rfl

theorem commsD_sorted (e : Evs) {n : Nat} (hr : right e n = true) : (commsD e n).Pairwise (fun x y => x.en < y.en) := by
  unfold commsD
  rw [List.pairwise_flatMap]
  refine ⟨fun i _ => ?_, ?_⟩
  · have hnd := (tries_nodup e n).filter (fun t => t.co && decide (t.en = (i : Int)))
    refine (List.pairwise_iff_getElem.2 fun a b ha hb hab => ?_)
    have h1 := List.getElem_mem ha
    have h2 := List.getElem_mem hb
    rw [List.mem_filter] at h1 h2
    simp at h1 h2
    have := en_one e hr h1.1 h2.1 (by omega) (by omega)
    exact absurd this (List.pairwise_iff_getElem.1 hnd a b ha hb hab)
  · refine List.pairwise_lt_range.imp ?_
    intro i j hij x hx y hy
    rw [List.mem_filter] at hx hy
    simp at hx hy
    omega

theorem commsD_perm (e : Evs) {n : Nat} (hr : right e n = true) : (commsD e n).Perm ((tries e n).filter fun t => t.co) := by
  refine (List.perm_ext_iff_of_nodup ((commsD_sorted e hr).imp fun h h2 => by rw [h2] at h; omega) ((tries_nodup e n).filter _)).2 fun t => ?_
  unfold commsD
  rw [List.mem_flatMap]
  constructor
  · rintro ⟨i, _, h⟩
    rw [List.mem_filter] at h ⊢
    simp at h
    exact ⟨h.1, h.2.1⟩
  · intro h
    rw [List.mem_filter] at h
    obtain ⟨ht, hc⟩ := h
    have hc' : t.co = true := hc
    obtain ⟨b, h1, h2, rfl⟩ := (tries_mem e n t).1 ht
    obtain ⟨i, h3, h4, _⟩ := en_at e h2 n hr h1 (co_en e b n hc')
    exact ⟨i, by simpa using h3, List.mem_filter.2 ⟨ht, by simp [hc', h4]⟩⟩

/-- As many tries committed as there are EvCommit. -/
theorem comms_before (e : Evs) {n : Nat} (hr : right e n = true) : ((tries e n).filter fun t => t.co).length = before e n := by
  rw [← (commsD_perm e hr).length_eq]
  have key : ∀ m, m ≤ n → ((List.range m).flatMap fun (i : Nat) => (tries e n).filter fun t => t.co && decide (t.en = (i : Int))).length = before e m := by
    intro m
    induction m with
    | zero => intro _; rfl
    | succ m ih =>
      intro hm
      rw [List.range_succ, List.flatMap_append, List.length_append, ih (by omega), before]
      congr 1
      simp only [List.flatMap_cons, List.flatMap_nil, List.append_nil]
      have hmay := right_may e hr (show m < n by omega)
      by_cases h5 : (e m).k = 5
      · rw [if_pos h5]
        obtain ⟨b, ho⟩ : ∃ b, opn e m (e m).th = some b := by
          cases ho : opn e m (e m).th with
          | some b => exact ⟨b, rfl⟩
          | none =>
            unfold may at hmay
            rw [ho] at hmay
            simp [h5] at hmay
        obtain ⟨b1, b2, b3, b4⟩ := opn_spec e _ _ _ ho
        have e1 := trAt_ends e ho (.inl h5)
        have e2 : trAt e b n = trAt e b (m + 1) := trAt_end e b (by omega) (by omega)
        have hmem : trAt e b n ∈ (tries e n).filter fun t => t.co && decide (t.en = (m : Int)) := by
          rw [List.mem_filter]
          refine ⟨(tries_mem e n _).2 ⟨b, by omega, b2, rfl⟩, ?_⟩
          rw [e2, e1, trAt_step e ho]
          simp [stepT, h5]
        have hone : ∀ t ∈ (tries e n).filter (fun t => t.co && decide (t.en = (m : Int))), t = trAt e b n := by
          intro t ht
          rw [List.mem_filter] at ht hmem
          simp at ht hmem
          exact en_one e hr ht.1 hmem.1 (by omega) (by omega)
        have hnd := (tries_nodup e n).filter (fun t => t.co && decide (t.en = (m : Int)))
        revert hmem hone hnd
        generalize (tries e n).filter (fun t => t.co && decide (t.en = (m : Int))) = L
        intro hmem hone hnd
        match L, hmem, hone, hnd with
        | [a], _, _, _ => rfl
        | a :: b :: L, _, hone, hnd =>
          have h1 := hone a (by simp)
          have h2 := hone b (by simp)
          rw [h1, h2] at hnd
          simp at hnd
      · rw [if_neg h5, List.length_eq_zero_iff, List.filter_eq_nil_iff]
        intro t ht
        obtain ⟨b, h1, h2, rfl⟩ := (tries_mem e n t).1 ht
        simp
        intro hc hen
        obtain ⟨i, h3, h4, _, _, h7⟩ := en_at e h2 n hr h1 (co_en e b n hc)
        have : i = m := by omega
        subst this
        exact h5 (h7.1 hc)
  exact key n (Nat.le_refl n)
end Go.Proofs.Ytkidkhjpijjphaa.base

/- The tries of a trace's beginning, and those of the trace. Of no program, and of no memory. -/
namespace Go.Proofs.Ytkidkhjpijjphaa.base
open Go

theorem stepT_ac (t : Tr) (i : Nat) (e : Ev) : t.ac.length ≤ (stepT t i e).ac.length := by
  unfold stepT
  repeat' split
  all_goals simp [relAll]
theorem trAt_ac (e : Evs) (b : Nat) : ∀ i j, (trAt e b i).ac.length ≤ (trAt e b (i + j)).ac.length
  | _, 0 => Nat.le_refl _
  | i, j + 1 => by
    have ih := trAt_ac e b i j
    rw [← Nat.add_assoc, trAt]
    split
    · exact Nat.le_trans ih (stepT_ac _ _ _)
    · exact ih

/-- What begins ahead of a place, begins ahead of a later one, first. -/
theorem begins_pre (e : Evs) (m j : Nat) : ∃ r, begins e (m + j) = begins e m ++ r := by
  unfold begins
  rw [List.range_add, List.filter_append]
  exact ⟨_, rfl⟩

theorem tries_len (e : Evs) {m n : Nat} (h : m ≤ n) : (tries e m).length ≤ (tries e n).length := by
  obtain ⟨r, hr⟩ := begins_pre e m (n - m)
  rw [show m + (n - m) = n by omega] at hr
  unfold tries
  rw [List.length_map, List.length_map, hr, List.length_append]
  omega
theorem begins_n (e : Evs) (n : Nat) : (begins e n).length ≤ n := by
  unfold begins
  have := List.length_filter_le (fun i => decide ((e i).k = 1)) (List.range n)
  rwa [List.length_range] at this
theorem tries_n (e : Evs) (n : Nat) : (tries e n).length ≤ n := by
  unfold tries
  rw [List.length_map]
  exact begins_n e n

/-- A beginning's tries are the trace's own first ones: what had ended stands as it was, and none did less. -/
theorem tries_pre (e : Evs) {m n : Nat} (h : m ≤ n) {i : Nat} {x y : Tr} (hx : (tries e m)[i]? = some x) (hy : (tries e n)[i]? = some y) : x.b = y.b ∧ (0 ≤ x.en → x.en = y.en) ∧ x.ac.length ≤ y.ac.length := by
  obtain ⟨r, hr⟩ := begins_pre e m (n - m)
  rw [show m + (n - m) = n by omega] at hr
  unfold tries at hx hy
  rw [List.getElem?_map, Option.map_eq_some_iff] at hx hy
  obtain ⟨b, hb, rfl⟩ := hx
  obtain ⟨c, hc, rfl⟩ := hy
  have hl : i < (begins e m).length := (List.getElem?_eq_some_iff.1 hb).1
  rw [hr, List.getElem?_append_left hl, hb] at hc
  cases hc
  refine ⟨by rw [(trAt_fix e b m).2.2.2.2, (trAt_fix e b n).2.2.2.2], fun h0 => by rw [trAt_end e b h0 h], ?_⟩
  have := trAt_ac e b m (n - m)
  rwa [show m + (n - m) = n by omega] at this

/-- What was sorted by the beginnings: the tries, one by one. -/
theorem sorted_tries (e : Evs) {n : Nat} {β : Type} {ys : List (Tr × β)} (h2 : (ys.map Prod.fst).Perm (tries e n)) (h3 : (ys.map Prod.fst).Pairwise (fun x y => x.b ≤ y.b)) : ys.map Prod.fst = tries e n :=
  sorted_one Tr.b h2 (tries_sorted e n) (h3.imp fun h => by omega)
end Go.Proofs.Ytkidkhjpijjphaa.base

/- Where a try's accesses stand in the trace, and how many there are. Of no program, and of no memory. -/
namespace Go.Proofs.Ytkidkhjpijjphaa.base
open Go

/-- An access of the try that began at b is an event ahead of place i. -/
def AccOk (e : Evs) (b i : Nat) (t : Tr) (a : Acc) : Prop := ∃ p : Nat, a.pl = (p : Int) ∧ b < p ∧ p < i ∧ (e p).k = a.k ∧ (e p).ob = a.ob ∧ (e p).va = a.va ∧ (e p).th = (e b).th ∧ (0 ≤ t.en → a.pl < t.en)
def AcsOk (e : Evs) (b i : Nat) (t : Tr) : Prop := (∀ a ∈ t.ac, AccOk e b i t a) ∧ t.ac.Pairwise (fun x y => x.pl < y.pl) ∧ (t.en = -1 ∨ ∃ q : Nat, t.en = (q : Int) ∧ q < i)

theorem AcsOk.step {e : Evs} {b i : Nat} {t : Tr} (h : AcsOk e b i t) (hb : b < i) (hth : (e i).th = (e b).th) (hen : t.en < 0) : AcsOk e b (i + 1) (stepT t i (e i)) := by
  obtain ⟨h1, h2, h3⟩ := h
  have hen1 : t.en = -1 := by
    rcases h3 with h3 | ⟨q, h3, _⟩
    · exact h3
    · omega
  have old : ∀ (t' : Tr) (a : Acc), a ∈ t.ac → t'.en = t.en → AccOk e b (i + 1) t' a := by
    intro t' a ha ht
    obtain ⟨p, p1, p2, p3, p4, p5, p6, p7, p8⟩ := h1 a ha
    exact ⟨p, p1, p2, by omega, p4, p5, p6, p7, fun h0 => by omega⟩
  have new : ∀ (a : Acc) (t' : Tr), t'.ac = t.ac ++ [a] → t'.en = t.en → a.pl = i → a.k = (e i).k → a.ob = (e i).ob → a.va = (e i).va → AcsOk e b (i + 1) t' := by
    intro a t' ht he a1 a2 a3 a4
    unfold AcsOk
    rw [ht, he]
    refine ⟨fun x hx => ?_, ?_, .inl hen1⟩
    · rcases List.mem_append.1 hx with hx | hx
      · exact old t' x hx he
      · have hx : x = a := by simpa using hx
        subst hx
        exact ⟨i, a1, hb, by omega, a2.symm, a3.symm, a4.symm, hth, fun h0 => by omega⟩
    · refine List.pairwise_append.2 ⟨h2, by simp, fun x hx y hy => ?_⟩
      have hy : y = a := by simpa using hy
      subst hy
      obtain ⟨p, p1, _, p3, _⟩ := h1 x hx
      omega
  have ends : ∀ (t' : Tr), t'.ac = t.ac → t'.en = i → AcsOk e b (i + 1) t' := by
    intro t' ht he
    unfold AcsOk
    rw [ht, he]
    refine ⟨fun a ha => ?_, h2, .inr ⟨i, rfl, by omega⟩⟩
    obtain ⟨p, p1, p2, p3, p4, p5, p6, p7, _⟩ := h1 a ha
    exact ⟨p, p1, p2, by omega, p4, p5, p6, p7, fun _ => by omega⟩
  unfold stepT
  by_cases k2 : (e i).k = 2
  · rw [if_pos k2]
    exact new _ _ rfl rfl rfl k2.symm rfl rfl
  rw [if_neg k2]
  by_cases k3 : (e i).k = 3
  · rw [if_pos k3]
    exact new _ _ rfl rfl rfl k3.symm rfl rfl
  rw [if_neg k3]
  by_cases k4 : (e i).k = 4
  · rw [if_pos k4]
    refine ⟨fun a ha => ?_, ?_, .inl hen1⟩
    · obtain ⟨a', ha', rfl⟩ := List.mem_map.1 (show a ∈ t.ac.map (Acc.free (e i).ob) from ha)
      have := old t a' ha' rfl
      unfold Acc.free
      split
      · obtain ⟨p, p1, p2, p3, p4, p5, p6, p7, p8⟩ := this
        exact ⟨p, p1, p2, p3, p4, p5, p6, p7, p8⟩
      · exact this
    · show (t.ac.map (Acc.free (e i).ob)).Pairwise _
      rw [List.pairwise_map]
      refine h2.imp fun {x y} h => ?_
      have hf : ∀ z : Acc, (Acc.free (e i).ob z).pl = z.pl := fun z => by unfold Acc.free; split <;> rfl
      rw [hf, hf]
      exact h
  rw [if_neg k4]
  by_cases k5 : (e i).k = 5
  · rw [if_pos k5]
    exact ends _ rfl rfl
  rw [if_neg k5]
  by_cases k6 : (e i).k = 6
  · rw [if_pos k6]
    exact ends _ rfl rfl
  rw [if_neg k6]
  exact ⟨fun a ha => old t a ha rfl, h2, .inl hen1⟩

theorem acs_ok (e : Evs) (b : Nat) : ∀ i, AcsOk e b i (trAt e b i)
  | 0 => ⟨fun a ha => absurd ha (by simp [trAt, init]), List.Pairwise.nil, .inl rfl⟩
  | i + 1 => by
    have ih := acs_ok e b i
    rw [trAt]
    split
    · next h => exact ih.step h.1 h.2.1 h.2.2
    · refine ⟨fun a ha => ?_, ih.2.1, ?_⟩
      · obtain ⟨p, p1, p2, p3, p4⟩ := ih.1 a ha
        exact ⟨p, p1, p2, by omega, p4⟩
      · rcases ih.2.2 with h | ⟨q, h1, h2⟩
        · exact .inl h
        · exact .inr ⟨q, h1, by omega⟩

/-- How many readings and writings stand ahead of a place. -/
def rws (e : Evs) : Nat → Nat
  | 0 => 0
  | i + 1 => rws e i + (if (e i).k = 2 ∨ (e i).k = 3 then 1 else 0)
theorem rws_le (e : Evs) : ∀ n, rws e n ≤ n
  | 0 => Nat.le_refl _
  | n + 1 => by have := rws_le e n; unfold rws; split <;> omega

theorem sum_same {l : List Nat} {f g : Nat → Nat} (h : ∀ b ∈ l, g b = f b) : (l.map g).sum = (l.map f).sum := by
  rw [List.map_congr_left h]
theorem sum_one {l : List Nat} {f g : Nat → Nat} {c : Nat} (nd : l.Nodup) (hc : c ∈ l) (h : ∀ b ∈ l, g b = f b + (if b = c then 1 else 0)) : (l.map g).sum = (l.map f).sum + 1 := by
  induction l with
  | nil => cases hc
  | cons x l ih =>
    rw [List.map_cons, List.map_cons, List.sum_cons, List.sum_cons, h x (by simp)]
    have nd2 := List.nodup_cons.1 nd
    by_cases hx : x = c
    · subst hx
      rw [if_pos rfl, sum_same (l := l) (f := f) (g := g) (fun b hb => by rw [h b (by simp [hb]), if_neg (fun e1 : b = x => nd2.1 (e1 ▸ hb))]; rfl)]
      omega
    · rw [if_neg hx, ih nd2.2 ((List.mem_cons.1 hc).resolve_left (fun e1 => hx e1.symm)) (fun b hb => h b (by simp [hb]))]
      omega

theorem ac_step (t : Tr) (i : Nat) (e : Ev) : (stepT t i e).ac.length = t.ac.length + (if e.k = 2 ∨ e.k = 3 then 1 else 0) := by
  by_cases k23 : e.k = 2 ∨ e.k = 3
  · rw [if_pos k23]
    unfold stepT
    rcases k23 with k | k <;> simp [k]
  · rw [if_neg k23]
    unfold stepT
    rw [if_neg (fun h => k23 (.inl h)), if_neg (fun h => k23 (.inr h))]
    split
    · simp [relAll]
    · split
      · rfl
      · split <;> rfl

/-- The accesses of all tries: as many as readings and writings. -/
theorem acs_sum (e : Evs) : ∀ n, right e n = true → ((begins e n).map fun b => (trAt e b n).ac.length).sum = rws e n
  | 0, _ => rfl
  | n + 1, hr => by
    rw [right, Bool.and_eq_true] at hr
    have ih := acs_sum e n hr.1
    have hmay := hr.2
    have hb : begins e (n + 1) = begins e n ++ (if (e n).k = 1 then [n] else []) := by
      unfold begins
      rw [List.range_succ, List.filter_append]
      by_cases h1 : (e n).k = 1 <;> simp [h1]
    have hnew : ((if (e n).k = 1 then [n] else ([] : List Nat)).map fun b => (trAt e b (n + 1)).ac.length).sum = 0 := by
      split
      · have := trAt_init e n (n + 1) (Nat.le_refl _)
        simp [this, init]
      · rfl
    rw [hb, List.map_append, List.sum_append_nat, hnew, Nat.add_zero, rws]
    by_cases h23 : (e n).k = 2 ∨ (e n).k = 3
    · rw [if_pos h23]
      obtain ⟨c, ho⟩ : ∃ c, opn e n (e n).th = some c := by
        cases ho : opn e n (e n).th with
        | some c => exact ⟨c, rfl⟩
        | none =>
          unfold may at hmay
          rw [ho] at hmay
          simp at hmay
          omega
      obtain ⟨c1, c2, c3, c4⟩ := opn_spec e _ _ _ ho
      rw [sum_one (f := fun b => (trAt e b n).ac.length) (begins_nodup e n) ((begins_mem e n c).2 ⟨c1, c2⟩), ih]
      intro b hbm
      obtain ⟨b1, b2⟩ := (begins_mem e n b).1 hbm
      show (trAt e b (n + 1)).ac.length = (trAt e b n).ac.length + _
      by_cases hbc : b = c
      · subst hbc
        rw [trAt_step e ho, ac_step, if_pos h23, if_pos rfl]
      · rw [if_neg hbc, trAt, if_neg]
        · rfl
        · rintro ⟨_, x2, x3⟩
          have := opn_of e hr.1 b1 b2 x3
          rw [← x2, ho] at this
          cases this
          exact hbc rfl
    · rw [if_neg h23, sum_same (f := fun b => (trAt e b n).ac.length), ih]
      · rfl
      · intro b _
        show (trAt e b (n + 1)).ac.length = (trAt e b n).ac.length
        rw [trAt]
        split
        · rw [ac_step, if_neg h23]
          rfl
        · rfl

theorem tries_sum (e : Evs) {n : Nat} (hr : right e n = true) : ((tries e n).map fun t => t.ac.length).sum = rws e n := by
  rw [← acs_sum e n hr]
  unfold tries
  rw [List.map_map]
  rfl

/-- How many accesses the first k have. -/
def sumTo (l : List Tr) : Nat → Nat
  | 0 => 0
  | k + 1 => sumTo l k + (match l[k]? with | some t => t.ac.length | none => 0)
theorem sumTo_take (l : List Tr) : ∀ k, sumTo l k = ((l.take k).map fun t => t.ac.length).sum
  | 0 => rfl
  | k + 1 => by
    rw [sumTo, sumTo_take l k, List.take_add_one, List.map_append, List.sum_append_nat]
    cases l[k]? <;> simp
theorem sumTo_all (l : List Tr) {k : Nat} (h : l.length ≤ k) : sumTo l k = (l.map fun t => t.ac.length).sum := by
  rw [sumTo_take, List.take_of_length_le h]
theorem sumTo_mono (l : List Tr) (k : Nat) : ∀ j, sumTo l k ≤ sumTo l (k + j)
  | 0 => Nat.le_refl _
  | j + 1 => by have := sumTo_mono l k j; rw [← Nat.add_assoc, sumTo]; omega

/-- What a try of a right trace is. -/
theorem try_is (e : Evs) {n i : Nat} {t : Tr} (hr : right e n = true) (h : (tries e n)[i]? = some t) : ∃ b : Nat, t.b = (b : Int) ∧ b < n ∧ (e b).k = 1 ∧ t.th = (e b).th ∧ AcsOk e b n t ∧ (∀ q : Nat, t.en = (q : Int) → q < n ∧ (t.co = true ↔ (e q).k = 5)) := by
  unfold tries at h
  rw [List.getElem?_map, Option.map_eq_some_iff] at h
  obtain ⟨b, hb, rfl⟩ := h
  obtain ⟨h1, h2⟩ := (begins_mem e n b).1 (List.mem_of_getElem? hb)
  have hf := trAt_fix e b n
  refine ⟨b, hf.2.2.2.2, h1, h2, hf.1, acs_ok e b n, fun q hq => ?_⟩
  obtain ⟨i, i1, i2, i3, i4, i5⟩ := en_at e h2 n hr h1 (by omega)
  have : i = q := by omega
  subst this
  exact ⟨i1, i5⟩
end Go.Proofs.Ytkidkhjpijjphaa.base

/- Where tries are seen: a walk along a trace on which a try that doesn't fit waits for a value, in plain numbers. Of no program, and of no memory. -/
namespace Go.Proofs.Ytkidkhjpijjphaa.base
open Go
set_option linter.unusedVariables false
set_option linter.unusedSimpArgs false

/-- The least number from lo to hi that f has; -1: there is none. -/
def IsP (f : Nat → Bool) (lo hi : Nat) (q : Int) : Prop :=
  (q = -1 ∧ ∀ k, lo ≤ k → k ≤ hi → f k = false) ∨ ∃ p : Nat, q = (p : Int) ∧ lo ≤ p ∧ p ≤ hi ∧ f p = true ∧ ∀ k, lo ≤ k → k < p → f k = false
theorem IsP.one {f : Nat → Bool} {lo hi : Nat} {q r : Int} (h : IsP f lo hi q) (g : IsP f lo hi r) : q = r := by
  rcases h with ⟨rfl, h⟩ | ⟨p, rfl, h1, h2, h3, h4⟩ <;> rcases g with ⟨rfl, g⟩ | ⟨p', rfl, g1, g2, g3, g4⟩
  · rfl
  · rw [h p' g1 g2] at g3; cases g3
  · rw [g p h1 h2] at h3; cases h3
  · rcases Nat.lt_trichotomy p p' with l | l | l
    · rw [g4 p h1 l] at h3; cases h3
    · rw [l]
    · rw [h4 p' g1 l] at g3; cases g3
theorem IsP.at {f : Nat → Bool} {lo : Nat} : IsP f lo lo (if f lo = true then (lo : Int) else -1) := by
  by_cases h : f lo = true
  · rw [if_pos h]
    exact .inr ⟨lo, rfl, Nat.le_refl _, Nat.le_refl _, h, fun k h1 h2 => by omega⟩
  · rw [if_neg h]
    refine .inl ⟨rfl, fun k h1 h2 => ?_⟩
    obtain rfl : k = lo := by omega
    simpa using h
theorem IsP.up {f : Nat → Bool} {lo hi : Nat} {q : Int} (h : IsP f lo hi q) (hq : q ≠ -1) : IsP f lo (hi + 1) q := by
  rcases h with ⟨rfl, h⟩ | ⟨p, rfl, h1, h2, h3, h4⟩
  · exact absurd rfl hq
  · exact .inr ⟨p, rfl, h1, by omega, h3, h4⟩
theorem IsP.up0 {f : Nat → Bool} {lo hi : Nat} (h : IsP f lo hi (-1)) (hf : f (hi + 1) = false) : IsP f lo (hi + 1) (-1) := by
  rcases h with ⟨_, h⟩ | ⟨p, h0, h1, h2, h3, h4⟩
  · refine .inl ⟨rfl, fun k k1 k2 => ?_⟩
    by_cases e : k = hi + 1
    · rw [e]; exact hf
    · exact h k k1 (by omega)
  · omega
theorem IsP.up1 {f : Nat → Bool} {lo hi : Nat} (h : IsP f lo hi (-1)) (hl : lo ≤ hi + 1) (hf : f (hi + 1) = true) : IsP f lo (hi + 1) ((hi + 1 : Nat) : Int) := by
  rcases h with ⟨_, h⟩ | ⟨p, h0, h1, h2, h3, h4⟩
  · exact .inr ⟨hi + 1, rfl, hl, Nat.le_refl _, hf, fun k k1 k2 => h k k1 (by omega)⟩
  · omega

/-- Has a state what an access tells? -/
def holdsB (n : Nat) (z : Nat → Int) (a : Acc) : Bool := decide (0 ≤ a.ob) && decide (a.ob < (n : Int)) && a.va == z a.ob.toNat
/-- A reading that counts, and isn't own. -/
def Acc.asks (a : Acc) : Prop := a.k = 2 ∧ a.own = false ∧ a.rel = false
instance (a : Acc) : Decidable a.asks := by unfold Acc.asks; infer_instance
/-- What a state hasn't of what was read. -/
def misses (n : Nat) (z : Nat → Int) : List Acc → Option (Int × Int)
  | [] => none
  | a :: l => if a.asks ∧ holdsB n z a = false then some (a.ob, a.va) else misses n z l
def Waits (n : Nat) (z : Nat → Int) (x : Int × Int) (l : List Acc) : Prop := ∃ a ∈ l, a.asks ∧ (a.ob, a.va) = x ∧ holdsB n z a = false

theorem misses_some {n : Nat} {z : Nat → Int} {x : Int × Int} : ∀ {l : List Acc}, misses n z l = some x → Waits n z x l
  | a :: l, h => by
    rw [misses] at h
    split at h
    · next hc => cases h; exact ⟨a, by simp, hc.1, rfl, hc.2⟩
    · obtain ⟨b, hb, h1⟩ := misses_some h
      exact ⟨b, List.mem_cons_of_mem _ hb, h1⟩
theorem misses_none {n : Nat} {z : Nat → Int} : ∀ {l : List Acc}, misses n z l = none → ∀ a ∈ l, a.asks → holdsB n z a = true
  | b :: l, h, a, ha, hk => by
    rw [misses] at h
    split at h
    · cases h
    · next hc =>
      rcases List.mem_cons.1 ha with rfl | ha
      · cases e : holdsB n z a with
        | true => rfl
        | false => exact absurd ⟨hk, e⟩ hc
      · exact misses_none h a ha hk
theorem waits_fits {n : Nat} {z : Nat → Int} {x : Int × Int} {l : List Acc} (h : Waits n z x l) : fits n z l = false := by
  obtain ⟨a, ha, ⟨h1, h2, h3⟩, _, h4⟩ := h
  obtain ⟨i, hi⟩ := List.getElem?_of_mem ha
  refine fits_bad hi ?_
  unfold readOk
  rw [if_pos ⟨h1, h3⟩]
  unfold tellsB
  cases lastW (l.take i) a.ob with
  | some v => simp [h2]
  | none =>
    unfold holdsB at h4
    simp only [h2, Bool.not_false, Bool.true_and]
    exact h4
/-- What doesn't fit, and misses nothing, never fits. -/
theorem never_fits {n : Nat} {z : Nat → Int} {l : List Acc} (h : fits n z l = false) (hm : misses n z l = none) (y : Nat → Int) : fits n y l = false := by
  cases e : fits n y l with
  | false => rfl
  | true =>
    have hf := fitsN_iff.1 e
    have : fits n z l = true := by
      refine fitsN_iff.2 fun i a hi ha => ?_
      have h0 := hf i a hi ha
      unfold readOk at h0 ⊢
      by_cases hc : a.k = 2 ∧ a.rel = false
      · rw [if_pos hc] at h0 ⊢
        unfold tellsB at h0 ⊢
        cases hl : lastW (l.take i) a.ob with
        | some v => rw [hl] at h0; exact h0
        | none =>
          rw [hl] at h0
          cases hw : a.own with
          | true => rw [hw] at h0; simp at h0
          | false =>
            have := misses_none hm a (List.mem_of_getElem? ha) ⟨hc.1, hw, hc.2⟩
            unfold holdsB at this
            simpa using this
      · rw [if_neg hc]
    rw [h] at this
    cases this

/-- What the walk knows: where each try is seen, and who waits for what. -/
structure Wk where
  seen : List Int
  M : Int × Int → List Nat

def ask (n : Nat) (z : Nat → Int) (p : Nat) (l : List Acc) (no : Nat) (s : Wk) : Wk :=
  if fits n z l = true then ⟨s.seen.set no p, s.M⟩
  else match misses n z l with
    | some x => ⟨s.seen, fun y => if y = x then s.M y ++ [no] else s.M y⟩
    | none => s
/-- One of those that are woken. -/
def wake1 (ts : List Tr) (n : Nat) (z : Nat → Int) (p place : Nat) (no : Nat) (s : Wk) : Wk :=
  match ts[no]? with
  | some t => if t.en < 0 ∨ (place : Int) < t.en then ask n z p t.ac no s else s
  | none => s
def wakes (ts : List Tr) (n : Nat) (z : Nat → Int) (p place : Nat) : List Nat → Wk → Wk
  | [], s => s
  | no :: l, s => wakes ts n z p place l (wake1 ts n z p place no s)
def wake (ts : List Tr) (n : Nat) (z : Nat → Int) (p place : Nat) (x : Int × Int) (s : Wk) : Wk :=
  wakes ts n z p place (s.M x) ⟨s.seen, fun y => if y = x then [] else s.M y⟩
/-- The objects that were written, in order. -/
def writes (n : Nat) : List Acc → List Nat
  | [] => []
  | a :: l => if a.k = 3 ∧ 0 ≤ a.ob ∧ a.ob < (n : Int) then a.ob.toNat :: writes n l else writes n l
def wakeAll (ts : List Tr) (n : Nat) (z : Nat → Int) (p place : Nat) : List Nat → Wk → Wk
  | [], s => s
  | o :: l, s => wakeAll ts n z p place l (wake ts n z p place ((o : Int), z o) s)
def commit (ts : List Tr) (n : Nat) (z : Nat → Int) (p place : Nat) (t : Tr) (no : Nat) (s : Wk) : Wk :=
  wakeAll ts n (app z t.ac) (p + 1) place (writes n t.ac) (if fits n z t.ac = true then ⟨s.seen.set no p, s.M⟩ else s)

theorem app_writes {n : Nat} {z : Nat → Int} {l : List Acc} {o : Nat} (ho : o < n) (h : app z l o ≠ z o) : o ∈ writes n l := by
  induction l generalizing z with
  | nil => exact absurd rfl h
  | cons a l ih =>
    have e : app z (a :: l) = app (app1 a z) l := rfl
    rw [writes]
    by_cases h1 : app (app1 a z) l o = app1 a z o
    · rw [e, h1] at h
      unfold app1 at h
      by_cases hc : a.k = 3 ∧ a.ob = (o : Int)
      · rw [if_pos ⟨hc.1, by omega, by omega⟩]
        have : a.ob.toNat = o := by omega
        rw [this]
        simp
      · rw [if_neg hc] at h; exact absurd rfl h
    · have := ih h1
      split
      · exact List.mem_cons_of_mem _ this
      · exact this

/-- How a trace's tries end. -/
theorem tries_get {e : Evs} {len no : Nat} {t : Tr} (h : (tries e len)[no]? = some t) : ∃ b, (begins e len)[no]? = some b ∧ t = trAt e b len ∧ t.b = (b : Int) ∧ b < len ∧ (e b).k = 1 := by
  unfold tries at h
  rw [List.getElem?_map, Option.map_eq_some_iff] at h
  obtain ⟨b, hb, rfl⟩ := h
  obtain ⟨h1, h2⟩ := (begins_mem e len b).1 (List.mem_of_getElem? hb)
  exact ⟨b, hb, rfl, (trAt_fix e b len).2.2.2.2, h1, h2⟩
theorem tries_end {e : Evs} {len no : Nat} {t : Tr} (hr : right e len = true) (h : (tries e len)[no]? = some t) : (t.en < 0 ∧ t.co = false) ∨ ∃ q : Nat, t.en = (q : Int) ∧ t.b < (q : Int) ∧ q < len ∧ ((e q).k = 5 ∨ (e q).k = 6) ∧ (t.co = true ↔ (e q).k = 5) := by
  obtain ⟨b, _, rfl, hb, hbl, hk⟩ := tries_get h
  by_cases h0 : 0 ≤ (trAt e b len).en
  · obtain ⟨q, h1, h2, h3, h4, h5⟩ := en_at e hk len hr hbl h0
    have := (opn_spec e _ _ _ h3).1
    exact .inr ⟨q, h2, by rw [hb]; omega, h1, h4, h5⟩
  · refine .inl ⟨by omega, ?_⟩
    cases e1 : (trAt e b len).co with
    | false => rfl
    | true => exact absurd (co_en e b len e1) h0
theorem before_mono (e : Evs) {i j : Nat} (h : i ≤ j) : before e i ≤ before e j := by
  induction h with
  | refl => exact Nat.le_refl _
  | step _ ih => rw [before]; omega

/-- Where a try is seen, by what was told. -/
def endOf (len : Nat) (t : Tr) : Nat := if t.en < 0 then len else t.en.toNat
def SeenAt (e : Evs) (n len i : Nat) (S : Nat → Nat → Int) (t : Tr) (q : Int) : Prop :=
  if t.co = true then q = if t.en < (i : Int) ∧ fits n (S (before e t.en.toNat)) t.ac = true then (before e t.en.toNat : Int) else -1
  else if t.b < (i : Int) then IsP (fun k => fits n (S k) t.ac) (before e t.b.toNat) (before e (min i (endOf len t))) q
  else q = -1
def Live (i : Nat) (t : Tr) : Prop := t.co = false ∧ t.b < (i : Int) ∧ (t.en < 0 ∨ (i : Int) ≤ t.en)
def Never (n : Nat) (S : Nat → Nat → Int) (t : Tr) : Prop := ∀ k, fits n (S k) t.ac = false

structure WkInv (e : Evs) (n len : Nat) (S : Nat → Nat → Int) (i : Nat) (s : Wk) : Prop where
  slen : s.seen.length = (tries e len).length
  at_ : ∀ (no : Nat) (t : Tr), (tries e len)[no]? = some t → ∃ q, s.seen[no]? = some q ∧ SeenAt e n len i S t q
  wait : ∀ (no : Nat) (t : Tr), (tries e len)[no]? = some t → Live i t → s.seen[no]? = some (-1) → Never n S t ∨ ∃ x, no ∈ s.M x ∧ Waits n (S (before e i)) x t.ac
  mem : ∀ (x : Int × Int) (no : Nat), no ∈ s.M x → ∃ t, (tries e len)[no]? = some t ∧ t.co = false ∧ t.b < (i : Int) ∧ s.seen[no]? = some (-1)
  uniq : ∀ (x y : Int × Int) (no : Nat), no ∈ s.M x → no ∈ s.M y → x = y
  nodup : ∀ x, (s.M x).Nodup

theorem WkInv.start (e : Evs) (n len : Nat) (S : Nat → Nat → Int) (hr : right e len = true) : WkInv e n len S 0 ⟨List.replicate (tries e len).length (-1), fun _ => []⟩ := by
  have hb : ∀ (no : Nat) (t : Tr), (tries e len)[no]? = some t → 0 ≤ t.b := fun no t h => by obtain ⟨b, _, _, h, _⟩ := tries_get h; omega
  have hg : ∀ (no : Nat) (t : Tr), (tries e len)[no]? = some t → (List.replicate (tries e len).length (-1 : Int))[no]? = some (-1) := fun no t h => by
    rw [List.getElem?_replicate, if_pos (List.getElem?_eq_some_iff.1 h).1]
  refine ⟨by simp, fun no t h => ⟨-1, hg no t h, ?_⟩, fun no t h hl => absurd hl.2.1 (by have := hb no t h; omega), fun x no h => absurd h (by simp), fun x y no h => absurd h (by simp), fun x => List.nodup_nil⟩
  unfold SeenAt
  by_cases hc : t.co = true
  · rw [if_pos hc, if_neg]
    rintro ⟨h1, _⟩
    rcases tries_end hr h with ⟨_, h3⟩ | ⟨q, h3, _⟩
    · rw [h3] at hc; cases hc
    · omega
  · rw [if_neg hc, if_neg (by have := hb no t h; omega)]

/-- An event at which no try begins, and none commits. -/
theorem WkInv.skip {e : Evs} {n len : Nat} {S : Nat → Nat → Int} {i : Nat} {s : Wk} (h : WkInv e n len S i s) (hr : right e len = true) (h1 : (e i).k ≠ 1) (h5 : (e i).k ≠ 5) : WkInv e n len S (i + 1) s := by
  have hbe : before e (i + 1) = before e i := by rw [before, if_neg h5]; rfl
  have hb : ∀ (no : Nat) (t : Tr), (tries e len)[no]? = some t → (t.b < ((i + 1 : Nat) : Int) ↔ t.b < (i : Int)) := fun no t ht => by
    obtain ⟨b, _, _, h2, _, h3⟩ := tries_get ht
    have : b ≠ i := fun e => by subst e; exact h1 h3
    omega
  refine ⟨h.slen, fun no t ht => ?_, fun no t ht hl hs => ?_, fun x no hx => ?_, h.uniq, h.nodup⟩
  · obtain ⟨q, hq, hs⟩ := h.at_ no t ht
    refine ⟨q, hq, ?_⟩
    unfold SeenAt at hs ⊢
    by_cases hc : t.co = true
    · rw [if_pos hc] at hs ⊢
      have : t.en < ((i + 1 : Nat) : Int) ↔ t.en < (i : Int) := by
        rcases tries_end hr ht with ⟨_, h3⟩ | ⟨q, h3, _, _, _, h4⟩
        · rw [h3] at hc; cases hc
        · have : q ≠ i := fun e => by subst e; exact h5 (h4.1 hc)
          omega
      simpa only [this] using hs
    · rw [if_neg hc] at hs ⊢
      by_cases hlt : t.b < (i : Int)
      · rw [if_pos hlt] at hs
        rw [if_pos ((hb no t ht).2 hlt)]
        have : before e (min (i + 1) (endOf len t)) = before e (min i (endOf len t)) := by
          by_cases hm : endOf len t ≤ i
          · rw [Nat.min_eq_right hm, Nat.min_eq_right (by omega)]
          · rw [Nat.min_eq_left (by omega), Nat.min_eq_left (by omega), hbe]
        rw [this]
        exact hs
      · rw [if_neg hlt] at hs
        rw [if_neg (fun h => hlt ((hb no t ht).1 h))]
        exact hs
  · rw [hbe]
    exact h.wait no t ht ⟨hl.1, (hb no t ht).1 hl.2.1, by have := hl.2.2; omega⟩ hs
  · obtain ⟨t, h1, h2, h3, h4⟩ := h.mem x no hx
    exact ⟨t, h1, h2, by omega, h4⟩

theorem tries_b_one {e : Evs} {len i j : Nat} {t u : Tr} (ht : (tries e len)[i]? = some t) (hu : (tries e len)[j]? = some u) (h : t.b = u.b) : i = j := by
  obtain ⟨b, h1, _, h3, _⟩ := tries_get ht
  obtain ⟨c, g1, _, g3, _⟩ := tries_get hu
  obtain rfl : b = c := by omega
  obtain ⟨hi, hi2⟩ := List.getElem?_eq_some_iff.1 h1
  obtain ⟨hj, hj2⟩ := List.getElem?_eq_some_iff.1 g1
  have hn := List.pairwise_iff_getElem.1 (begins_nodup e len)
  rcases Nat.lt_trichotomy i j with l | l | l
  · exact absurd (hi2.trans hj2.symm) (hn i j hi hj l)
  · exact l
  · exact absurd (hj2.trans hi2.symm) (hn j i hj hi l)

/-- An event at which a try begins. -/
theorem WkInv.begin_ {e : Evs} {n len : Nat} {S : Nat → Nat → Int} {i : Nat} {s : Wk} (h : WkInv e n len S i s) (hr : right e len = true) (h1 : (e i).k = 1) {no : Nat} {t : Tr} (ht : (tries e len)[no]? = some t) (hb : t.b = (i : Int)) :
    WkInv e n len S (i + 1) (if t.co = true then s else ask n (S (before e i)) (before e i) t.ac no s) := by
  have h5 : (e i).k ≠ 5 := by omega
  have hbe : before e (i + 1) = before e i := by rw [before, if_neg h5]; rfl
  have hb2 : ∀ (no' : Nat) (t' : Tr), (tries e len)[no']? = some t' → no' ≠ no → (t'.b < ((i + 1 : Nat) : Int) ↔ t'.b < (i : Int)) := fun no' t' ht' hne => by
    have : t'.b ≠ (i : Int) := fun e => hne (tries_b_one ht' ht (e.trans hb.symm))
    omega
  have hsame : ∀ (no' : Nat) (t' : Tr) (q : Int), (tries e len)[no']? = some t' → (no' ≠ no ∨ t'.co = true) → SeenAt e n len i S t' q → SeenAt e n len (i + 1) S t' q := by
    intro no' t' q ht' hne hs
    unfold SeenAt at hs ⊢
    by_cases hc : t'.co = true
    · rw [if_pos hc] at hs ⊢
      have : t'.en < ((i + 1 : Nat) : Int) ↔ t'.en < (i : Int) := by
        rcases tries_end hr ht' with ⟨_, h3⟩ | ⟨q, h3, _, _, _, h4⟩
        · rw [h3] at hc; cases hc
        · have : q ≠ i := fun e => by subst e; exact h5 (h4.1 hc)
          omega
      simpa only [this] using hs
    · rw [if_neg hc] at hs ⊢
      have hne : no' ≠ no := hne.resolve_right hc
      by_cases hlt : t'.b < (i : Int)
      · rw [if_pos hlt] at hs
        rw [if_pos ((hb2 no' t' ht' hne).2 hlt)]
        have : before e (min (i + 1) (endOf len t')) = before e (min i (endOf len t')) := by
          by_cases hm : endOf len t' ≤ i
          · rw [Nat.min_eq_right hm, Nat.min_eq_right (by omega)]
          · rw [Nat.min_eq_left (by omega), Nat.min_eq_left (by omega), hbe]
        rw [this]
        exact hs
      · rw [if_neg hlt] at hs
        rw [if_neg (fun h => hlt ((hb2 no' t' ht' hne).1 h))]
        exact hs
  have hmemNe : ∀ (x : Int × Int) (no' : Nat), no' ∈ s.M x → no' ≠ no := fun x no' hx e => by
    subst e
    obtain ⟨t', g1, _, g3, _⟩ := h.mem x no' hx
    rw [ht] at g1
    cases g1
    omega
  by_cases hc : t.co = true
  · rw [if_pos hc]
    refine ⟨h.slen, fun no' t' ht' => ?_, fun no' t' ht' hl hs => ?_, fun x no' hx => ?_, h.uniq, h.nodup⟩
    · obtain ⟨q, hq, hs⟩ := h.at_ no' t' ht'
      refine ⟨q, hq, hsame no' t' q ht' ?_ hs⟩
      by_cases e : no' = no
      · subst e; rw [ht] at ht'; cases ht'; exact .inr hc
      · exact .inl e
    · have hne : no' ≠ no := fun e => by subst e; rw [ht] at ht'; cases ht'; rw [hl.1] at hc; cases hc
      rw [hbe]
      exact h.wait no' t' ht' ⟨hl.1, (hb2 no' t' ht' hne).1 hl.2.1, by have := hl.2.2; omega⟩ hs
    · obtain ⟨t', g1, g2, g3, g4⟩ := h.mem x no' hx
      exact ⟨t', g1, g2, by omega, g4⟩
  · rw [if_neg hc]
    have hc' : t.co = false := by simpa using hc
    have hend : i + 1 ≤ endOf len t := by
      unfold endOf
      have := (List.getElem?_eq_some_iff.1 ht).1
      obtain ⟨b, _, _, h3, h4, _⟩ := tries_get ht
      rcases tries_end hr ht with ⟨h3, _⟩ | ⟨q, h3, h4, _⟩
      · rw [if_pos h3]; omega
      · rw [if_neg (by omega)]; omega
    have hlo : before e t.b.toNat = before e i := by rw [hb]; rfl
    have hhi : before e (min (i + 1) (endOf len t)) = before e i := by rw [Nat.min_eq_left hend, hbe]
    have hnol : no < s.seen.length := by rw [h.slen]; exact (List.getElem?_eq_some_iff.1 ht).1
    have hseen0 : s.seen[no]? = some (-1) := by
      obtain ⟨q, hq, hs⟩ := h.at_ no t ht
      unfold SeenAt at hs
      rw [if_neg hc, if_neg (by omega)] at hs
      rw [hq, hs]
    have hself : ∀ q, IsP (fun k => fits n (S k) t.ac) (before e i) (before e i) q → SeenAt e n len (i + 1) S t q := fun q hq => by
      unfold SeenAt
      rw [if_neg hc, if_pos (by omega), hlo, hhi]
      exact hq
    unfold ask
    by_cases hf : fits n (S (before e i)) t.ac = true
    · rw [if_pos hf]
      refine ⟨by simpa using h.slen, fun no' t' ht' => ?_, fun no' t' ht' hl hs => ?_, fun x no' hx => ?_, h.uniq, h.nodup⟩
      · by_cases e : no' = no
        · subst e
          rw [ht] at ht'
          cases ht'
          refine ⟨_, List.getElem?_set_self hnol, hself _ ?_⟩
          have := IsP.at (f := fun k => fits n (S k) t.ac) (lo := before e i)
          rwa [if_pos hf] at this
        · obtain ⟨q, hq, hs⟩ := h.at_ no' t' ht'
          exact ⟨q, by rw [List.getElem?_set_ne (Ne.symm e)]; exact hq, hsame no' t' q ht' (.inl e) hs⟩
      · have hne : no' ≠ no := fun e => by
          subst e
          dsimp only at hs
          rw [List.getElem?_set_self hnol] at hs
          injection hs with hs
          omega
        dsimp only at hs ⊢
        rw [List.getElem?_set_ne (Ne.symm hne)] at hs
        rw [hbe]
        exact h.wait no' t' ht' ⟨hl.1, (hb2 no' t' ht' hne).1 hl.2.1, by have := hl.2.2; omega⟩ hs
      · obtain ⟨t', g1, g2, g3, g4⟩ := h.mem x no' hx
        exact ⟨t', g1, g2, by omega, by dsimp only; rw [List.getElem?_set_ne (Ne.symm (hmemNe x no' hx))]; exact g4⟩
    · rw [if_neg hf]
      have hf' : fits n (S (before e i)) t.ac = false := by simpa using hf
      have hP : IsP (fun k => fits n (S k) t.ac) (before e i) (before e i) (-1) := by
        have := IsP.at (f := fun k => fits n (S k) t.ac) (lo := before e i)
        rwa [if_neg hf] at this
      have hat : ∀ (no' : Nat) (t' : Tr), (tries e len)[no']? = some t' → ∃ q, s.seen[no']? = some q ∧ SeenAt e n len (i + 1) S t' q := by
        intro no' t' ht'
        by_cases e : no' = no
        · subst e
          rw [ht] at ht'
          cases ht'
          exact ⟨-1, hseen0, hself _ hP⟩
        · obtain ⟨q, hq, hs⟩ := h.at_ no' t' ht'
          exact ⟨q, hq, hsame no' t' q ht' (.inl e) hs⟩
      cases hm : misses n (S (before e i)) t.ac with
      | none =>
        refine ⟨h.slen, hat, fun no' t' ht' hl hs => ?_, fun x no' hx => ?_, h.uniq, h.nodup⟩
        · by_cases e : no' = no
          · subst e
            rw [ht] at ht'
            cases ht'
            exact .inl fun k => never_fits hf' hm _
          · rw [hbe]
            exact h.wait no' t' ht' ⟨hl.1, (hb2 no' t' ht' e).1 hl.2.1, by have := hl.2.2; omega⟩ hs
        · obtain ⟨t', g1, g2, g3, g4⟩ := h.mem x no' hx
          exact ⟨t', g1, g2, by omega, g4⟩
      | some x0 =>
        dsimp only
        refine ⟨h.slen, hat, fun no' t' ht' hl hs => ?_, fun x no' hx => ?_, fun x y no' hx hy => ?_, fun x => ?_⟩
        · by_cases e : no' = no
          · subst e
            rw [ht] at ht'
            cases ht'
            exact .inr ⟨x0, by dsimp only; rw [if_pos rfl]; simp, by rw [hbe]; exact misses_some hm⟩
          · rw [hbe]
            rcases h.wait no' t' ht' ⟨hl.1, (hb2 no' t' ht' e).1 hl.2.1, by have := hl.2.2; omega⟩ hs with h1 | ⟨x, h1, h2⟩
            · exact .inl h1
            · refine .inr ⟨x, ?_, h2⟩
              dsimp only
              split
              · exact List.mem_append_left _ h1
              · exact h1
        · dsimp only at hx
          have old : no' ∈ s.M x → ∃ t, (tries e len)[no']? = some t ∧ t.co = false ∧ t.b < ((i + 1 : Nat) : Int) ∧ s.seen[no']? = some (-1) := fun hx => by
            obtain ⟨t', g1, g2, g3, g4⟩ := h.mem x no' hx
            exact ⟨t', g1, g2, by omega, g4⟩
          split at hx
          · rcases List.mem_append.1 hx with hx | hx
            · exact old hx
            · have : no' = no := by simpa using hx
              subst this
              exact ⟨t, ht, hc', by omega, hseen0⟩
          · exact old hx
        · dsimp only at hx hy
          by_cases e : no' = no
          · subst e
            have key : ∀ (x : Int × Int), no' ∈ (if x = x0 then s.M x ++ [no'] else s.M x) → x = x0 := fun x hx => by
              by_cases e2 : x = x0
              · exact e2
              · rw [if_neg e2] at hx
                exact absurd rfl (hmemNe x no' hx)
            exact (key x hx).trans (key y hy).symm
          · have key : ∀ (x : Int × Int), no' ∈ (if x = x0 then s.M x ++ [no] else s.M x) → no' ∈ s.M x := fun x hx => by
              split at hx
              · rcases List.mem_append.1 hx with hx | hx
                · exact hx
                · exact absurd (by simpa using hx) e
              · exact hx
            exact h.uniq x y no' (key x hx) (key y hy)
        · dsimp only
          split
          · refine List.nodup_append.2 ⟨h.nodup x, by simp, fun a ha b hb hab => ?_⟩
            have : b = no := by simpa using hb
            exact hmemNe x a ha (hab.trans this)
          · exact h.nodup x
end Go.Proofs.Ytkidkhjpijjphaa.base

/- Where tries are seen: what a commit does to those that wait. Of no program, and of no memory. -/
namespace Go.Proofs.Ytkidkhjpijjphaa.base
open Go
set_option linter.unusedVariables false
set_option linter.unusedSimpArgs false

/-- What is known within a commit at place i: what is to be woken yet, and who is in hand. -/
structure WkMid (e : Evs) (n len : Nat) (S : Nat → Nat → Int) (i : Nat) (todo : Int × Int → Prop) (hand : List Nat) (s : Wk) : Prop where
  slen : s.seen.length = (tries e len).length
  at_ : ∀ (no : Nat) (t : Tr), (tries e len)[no]? = some t → ∃ q, s.seen[no]? = some q ∧
    ((SeenAt e n len (i + 1) S t q ∧ (Live (i + 1) t → q = -1 → Never n S t ∨ ∃ x, no ∈ s.M x ∧ Waits n (S (before e (i + 1))) x t.ac)) ∨
     (q = -1 ∧ Live (i + 1) t ∧ SeenAt e n len i S t (-1) ∧ (no ∈ hand ∨ ∃ x, todo x ∧ no ∈ s.M x)))
  mem : ∀ (x : Int × Int) (no : Nat), no ∈ s.M x → no ∉ hand ∧ ∃ t, (tries e len)[no]? = some t ∧ t.co = false ∧ t.b < ((i + 1 : Nat) : Int) ∧ s.seen[no]? = some (-1)
  inh : ∀ (no : Nat), no ∈ hand → ∃ t, (tries e len)[no]? = some t ∧ t.co = false ∧ t.b < ((i + 1 : Nat) : Int) ∧ s.seen[no]? = some (-1)
  hnd : hand.Nodup
  uniq : ∀ (x y : Int × Int) (no : Nat), no ∈ s.M x → no ∈ s.M y → x = y
  nodup : ∀ x, (s.M x).Nodup

section
variable {e : Evs} {n len i : Nat} {S : Nat → Nat → Int} {todo : Int × Int → Prop} {hand : List Nat} {s : Wk}

theorem live_end {t : Tr} {no : Nat} (hi : i < len) (hr : right e len = true) (ht : (tries e len)[no]? = some t) (h : Live (i + 1) t) : i + 1 ≤ endOf len t := by
  unfold endOf
  split
  · omega
  · have := h.2.2; omega
/-- One that goes on: what SeenAt says of it. -/
theorem seen_live {t : Tr} {no : Nat} {q : Int} (hi : i < len) (h5 : (e i).k = 5) (hr : right e len = true) (ht : (tries e len)[no]? = some t) (h : Live (i + 1) t) :
    (SeenAt e n len i S t q ↔ IsP (fun k => fits n (S k) t.ac) (before e t.b.toNat) (before e i) q) ∧ (SeenAt e n len (i + 1) S t q ↔ IsP (fun k => fits n (S k) t.ac) (before e t.b.toNat) (before e i + 1) q) ∧ before e t.b.toNat ≤ before e i + 1 := by
  have h1 := live_end hi hr ht h
  obtain ⟨b, _, _, h2, _, h3⟩ := tries_get ht
  have hb : b ≠ i := fun e => by subst e; omega
  have hlt : t.b < (i : Int) := by have := h.2.1; omega
  have hbe : before e (i + 1) = before e i + 1 := by rw [before, if_pos h5]
  have hco : ¬ t.co = true := by rw [h.1]; simp
  refine ⟨?_, ?_, ?_⟩
  · unfold SeenAt
    rw [if_neg hco, if_pos hlt, Nat.min_eq_left (by omega)]
  · unfold SeenAt
    rw [if_neg hco, if_pos h.2.1, Nat.min_eq_left h1, hbe]
  · have := before_mono e (show t.b.toNat ≤ i by omega)
    omega
theorem seen_back {t : Tr} {no : Nat} (hi : i < len) (h5 : (e i).k = 5) (hr : right e len = true) (ht : (tries e len)[no]? = some t) (h : Live (i + 1) t) (hs : SeenAt e n len (i + 1) S t (-1)) : SeenAt e n len i S t (-1) := by
  obtain ⟨h1, h2, _⟩ := seen_live (q := -1) (S := S) (n := n) hi h5 hr ht h
  refine h1.2 ?_
  rcases h2.1 hs with ⟨_, h⟩ | ⟨p, hp, _⟩
  · exact .inl ⟨rfl, fun k a b => h k a (by omega)⟩
  · omega

theorem WkMid.wake1 {no : Nat} (h : WkMid e n len S i todo (no :: hand) s) (hi : i < len) (h5 : (e i).k = 5) (hr : right e len = true) : WkMid e n len S i todo hand (base.wake1 (tries e len) n (S (before e (i + 1))) (before e i + 1) i no s) := by
  obtain ⟨t, ht, hco, hb, hs⟩ := h.inh no (by simp)
  have hbe : before e (i + 1) = before e i + 1 := by rw [before, if_pos h5]
  have hnd := List.nodup_cons.1 h.hnd
  have hnol : no < s.seen.length := by rw [h.slen]; exact (List.getElem?_eq_some_iff.1 ht).1
  have hnoM : ∀ (x : Int × Int), no ∉ s.M x := fun x hx => (h.mem x no hx).1 (by simp)
  have hother : ∀ (s' : Wk), (∀ (x : Int × Int) (no' : Nat), no' ≠ no → no' ∈ s.M x → no' ∈ s'.M x) → ∀ (no' : Nat) (t' : Tr), no' ≠ no → (tries e len)[no']? = some t' → ∃ q, s.seen[no']? = some q ∧
    ((SeenAt e n len (i + 1) S t' q ∧ (Live (i + 1) t' → q = -1 → Never n S t' ∨ ∃ x, no' ∈ s'.M x ∧ Waits n (S (before e (i + 1))) x t'.ac)) ∨
     (q = -1 ∧ Live (i + 1) t' ∧ SeenAt e n len i S t' (-1) ∧ (no' ∈ hand ∨ ∃ x, todo x ∧ no' ∈ s'.M x))) := by
    intro s' hM no' t' hne ht'
    obtain ⟨q, hq, h1 | h1⟩ := h.at_ no' t' ht'
    · refine ⟨q, hq, .inl ⟨h1.1, fun hl h2 => ?_⟩⟩
      rcases h1.2 hl h2 with h3 | ⟨x, h3, h4⟩
      · exact .inl h3
      · exact .inr ⟨x, hM x no' hne h3, h4⟩
    · refine ⟨q, hq, .inr ⟨h1.1, h1.2.1, h1.2.2.1, ?_⟩⟩
      rcases h1.2.2.2 with h2 | ⟨x, h2, h3⟩
      · rcases List.mem_cons.1 h2 with h2 | h2
        · exact absurd h2 hne
        · exact .inl h2
      · exact .inr ⟨x, h2, hM x no' hne h3⟩
  unfold base.wake1
  rw [ht]
  dsimp only
  by_cases hl : t.en < 0 ∨ (i : Int) < t.en
  · rw [if_pos hl]
    have hL : Live (i + 1) t := ⟨hco, hb, by omega⟩
    obtain ⟨s1, s2, s3⟩ := seen_live (q := -1) (S := S) (n := n) hi h5 hr ht hL
    have hP : IsP (fun k => fits n (S k) t.ac) (before e t.b.toNat) (before e i) (-1) := by
      obtain ⟨q, hq, h1 | h1⟩ := h.at_ no t ht
      · rw [hs] at hq
        cases hq
        exact s1.1 (seen_back hi h5 hr ht hL h1.1)
      · exact s1.1 h1.2.2.1
    unfold ask
    by_cases hf : fits n (S (before e (i + 1))) t.ac = true
    · rw [if_pos hf]
      refine ⟨by simpa using h.slen, fun no' t' ht' => ?_, fun x no' hx => ?_, fun no' hx => ?_, hnd.2, h.uniq, h.nodup⟩
      · by_cases e1 : no' = no
        · subst e1
          rw [ht] at ht'
          cases ht'
          refine ⟨_, List.getElem?_set_self hnol, .inl ⟨?_, fun _ h2 => by omega⟩⟩
          rw [hbe] at hf
          exact (seen_live hi h5 hr ht hL).2.1.2 (hP.up1 s3 hf)
        · obtain ⟨q, hq, h1⟩ := hother s (fun _ _ _ h => h) no' t' e1 ht'
          exact ⟨q, by rw [List.getElem?_set_ne (Ne.symm e1)]; exact hq, h1⟩
      · obtain ⟨g0, t', g1, g2, g3, g4⟩ := h.mem x no' hx
        refine ⟨fun hm => g0 (List.mem_cons_of_mem _ hm), t', g1, g2, g3, ?_⟩
        dsimp only
        rw [List.getElem?_set_ne (show no ≠ no' from fun e1 => g0 (by simp [e1]))]
        exact g4
      · obtain ⟨t', g1, g2, g3, g4⟩ := h.inh no' (List.mem_cons_of_mem _ hx)
        refine ⟨t', g1, g2, g3, ?_⟩
        dsimp only
        rw [List.getElem?_set_ne (show no ≠ no' from fun e1 => hnd.1 (by rw [e1]; exact hx))]
        exact g4
    · rw [if_neg hf]
      have hf' : fits n (S (before e (i + 1))) t.ac = false := by simpa using hf
      have hP' := s2.2 (hP.up0 (by rw [← hbe]; exact hf'))
      cases hm : misses n (S (before e (i + 1))) t.ac with
      | none =>
        refine ⟨h.slen, fun no' t' ht' => ?_, fun x no' hx => ?_, fun no' hx => h.inh no' (List.mem_cons_of_mem _ hx), hnd.2, h.uniq, h.nodup⟩
        · by_cases e1 : no' = no
          · subst e1
            rw [ht] at ht'
            cases ht'
            exact ⟨-1, hs, .inl ⟨hP', fun _ _ => .inl fun k => never_fits hf' hm _⟩⟩
          · exact hother s (fun _ _ _ h => h) no' t' e1 ht'
        · obtain ⟨g0, t', g1, g2, g3, g4⟩ := h.mem x no' hx
          exact ⟨fun hm => g0 (List.mem_cons_of_mem _ hm), t', g1, g2, g3, g4⟩
      | some x0 =>
        dsimp only
        refine ⟨h.slen, fun no' t' ht' => ?_, fun x no' hx => ?_, fun no' hx => h.inh no' (List.mem_cons_of_mem _ hx), hnd.2, fun x y no' hx hy => ?_, fun x => ?_⟩
        · by_cases e1 : no' = no
          · subst e1
            rw [ht] at ht'
            cases ht'
            exact ⟨-1, hs, .inl ⟨hP', fun _ _ => .inr ⟨x0, by dsimp only; rw [if_pos rfl]; simp, misses_some hm⟩⟩⟩
          · exact hother ⟨s.seen, fun y => if y = x0 then s.M y ++ [no] else s.M y⟩ (fun x no' _ h => by dsimp only; split <;> first | exact List.mem_append_left _ h | exact h) no' t' e1 ht'
        · dsimp only at hx
          by_cases e1 : no' = no
          · subst e1
            exact ⟨hnd.1, t, ht, hco, hb, hs⟩
          · have hx' : no' ∈ s.M x := by
              split at hx
              · rcases List.mem_append.1 hx with hx | hx
                · exact hx
                · exact absurd (by simpa using hx) e1
              · exact hx
            obtain ⟨g0, t', g1, g2, g3, g4⟩ := h.mem x no' hx'
            exact ⟨fun hm => g0 (List.mem_cons_of_mem _ hm), t', g1, g2, g3, g4⟩
        · dsimp only at hx hy
          by_cases e1 : no' = no
          · subst e1
            have key : ∀ (x : Int × Int), no' ∈ (if x = x0 then s.M x ++ [no'] else s.M x) → x = x0 := fun x hx => by
              by_cases e2 : x = x0
              · exact e2
              · rw [if_neg e2] at hx
                exact absurd hx (hnoM x)
            exact (key x hx).trans (key y hy).symm
          · have key : ∀ (x : Int × Int), no' ∈ (if x = x0 then s.M x ++ [no] else s.M x) → no' ∈ s.M x := fun x hx => by
              split at hx
              · rcases List.mem_append.1 hx with hx | hx
                · exact hx
                · exact absurd (by simpa using hx) e1
              · exact hx
            exact h.uniq x y no' (key x hx) (key y hy)
        · dsimp only
          split
          · refine List.nodup_append.2 ⟨h.nodup x, by simp, fun a ha b hb hab => ?_⟩
            have : b = no := by simpa using hb
            exact hnoM x (by rw [← this, ← hab]; exact ha)
          · exact h.nodup x
  · rw [if_neg hl]
    refine ⟨h.slen, fun no' t' ht' => ?_, fun x no' hx => ?_, fun no' hx => h.inh no' (List.mem_cons_of_mem _ hx), hnd.2, h.uniq, h.nodup⟩
    · by_cases e1 : no' = no
      · subst e1
        rw [ht] at ht'
        cases ht'
        obtain ⟨q, hq, h1 | h1⟩ := h.at_ no' t ht
        · exact ⟨q, hq, .inl ⟨h1.1, fun hL => absurd hL.2.2 (by omega)⟩⟩
        · exact absurd h1.2.1.2.2 (by omega)
      · exact hother s (fun _ _ _ h => h) no' t' e1 ht'
    · obtain ⟨g0, t', g1, g2, g3, g4⟩ := h.mem x no' hx
      exact ⟨fun hm => g0 (List.mem_cons_of_mem _ hm), t', g1, g2, g3, g4⟩

theorem WkMid.wakes : ∀ {hand : List Nat} {s : Wk}, WkMid e n len S i todo hand s → i < len → (e i).k = 5 → right e len = true → WkMid e n len S i todo [] (base.wakes (tries e len) n (S (before e (i + 1))) (before e i + 1) i hand s)
  | [], _, h, _, _, _ => h
  | no :: hand, s, h, hi, h5, hr => WkMid.wakes (hand := hand) (h.wake1 hi h5 hr) hi h5 hr

theorem WkMid.take (h : WkMid e n len S i todo [] s) (hi : i < len) (h5 : (e i).k = 5) (hr : right e len = true) (x : Int × Int) : WkMid e n len S i (fun y => todo y ∧ y ≠ x) (s.M x) ⟨s.seen, fun y => if y = x then [] else s.M y⟩ := by
  refine ⟨h.slen, fun no t ht => ?_, fun y no hy => ?_, fun no hx => ?_, h.nodup x, fun y y' no hy hy' => ?_, fun y => ?_⟩
  · obtain ⟨q, hq, h1 | h1⟩ := h.at_ no t ht
    · by_cases hL : Live (i + 1) t ∧ no ∈ s.M x
      · obtain ⟨_, t', g1, _, _, g4⟩ := h.mem x no hL.2
        rw [hq] at g4
        cases g4
        exact ⟨-1, hq, .inr ⟨rfl, hL.1, seen_back hi h5 hr ht hL.1 h1.1, .inl hL.2⟩⟩
      · refine ⟨q, hq, .inl ⟨h1.1, fun h2 h3 => ?_⟩⟩
        rcases h1.2 h2 h3 with h4 | ⟨y, h4, h5⟩
        · exact .inl h4
        · refine .inr ⟨y, ?_, h5⟩
          dsimp only
          rw [if_neg (show ¬ y = x from fun e1 => hL ⟨h2, e1 ▸ h4⟩)]
          exact h4
    · refine ⟨q, hq, .inr ⟨h1.1, h1.2.1, h1.2.2.1, ?_⟩⟩
      rcases h1.2.2.2 with h2 | ⟨y, h2, h3⟩
      · simp at h2
      · by_cases e1 : y = x
        · subst e1; exact .inl h3
        · exact .inr ⟨y, ⟨h2, e1⟩, by dsimp only; rw [if_neg e1]; exact h3⟩
  · dsimp only at hy
    split at hy
    · simp at hy
    · next hne =>
      obtain ⟨_, t, g1⟩ := h.mem y no hy
      exact ⟨fun hm => hne (h.uniq y x no hy hm), t, g1⟩
  · exact (h.mem x no hx).2
  · dsimp only at hy hy'
    split at hy
    · simp at hy
    · split at hy'
      · simp at hy'
      · exact h.uniq y y' no hy hy'
  · dsimp only
    split
    · exact List.nodup_nil
    · exact h.nodup y

theorem WkMid.weak {todo' : Int × Int → Prop} (h : WkMid e n len S i todo hand s) (ht : ∀ x, todo x → todo' x) : WkMid e n len S i todo' hand s := by
  refine ⟨h.slen, fun no t hn => ?_, h.mem, h.inh, h.hnd, h.uniq, h.nodup⟩
  obtain ⟨q, hq, h1 | ⟨h1, h2, h3, h4⟩⟩ := h.at_ no t hn
  · exact ⟨q, hq, .inl h1⟩
  · refine ⟨q, hq, .inr ⟨h1, h2, h3, ?_⟩⟩
    rcases h4 with h4 | ⟨x, h4, h5⟩
    · exact .inl h4
    · exact .inr ⟨x, ht x h4, h5⟩

theorem WkMid.all : ∀ {l : List Nat} {s : Wk}, WkMid e n len S i (fun x => ∃ o : Nat, o ∈ l ∧ x = ((o : Int), S (before e (i + 1)) o)) [] s → i < len → (e i).k = 5 → right e len = true → WkMid e n len S i (fun _ => False) [] (wakeAll (tries e len) n (S (before e (i + 1))) (before e i + 1) i l s)
  | [], _, h, _, _, _ => h.weak (fun x ⟨_, h, _⟩ => by simp at h)
  | o :: l, s, h, hi, h5, hr => by
    refine WkMid.all (l := l) ?_ hi h5 hr
    refine ((h.take hi h5 hr ((o : Int), S (before e (i + 1)) o)).wakes hi h5 hr).weak ?_
    rintro x ⟨⟨o', h1, h2⟩, h3⟩
    rcases List.mem_cons.1 h1 with rfl | h1
    · exact absurd h2 h3
    · exact ⟨o', h1, h2⟩

/-- Whatever of it is woken. -/
theorem WkMid.part (hi : i < len) (h5 : (e i).k = 5) (hr : right e len = true) : ∀ (l : List Nat) {s : Wk}, WkMid e n len S i todo [] s → WkMid e n len S i todo [] (wakeAll (tries e len) n (S (before e (i + 1))) (before e i + 1) i l s)
  | [], _, h => h
  | o :: l, s, h => WkMid.part hi h5 hr l (((h.take hi h5 hr ((o : Int), S (before e (i + 1)) o)).wakes hi h5 hr).weak fun _ hx => hx.1)

theorem WkMid.done (h : WkMid e n len S i (fun _ => False) [] s) : WkInv e n len S (i + 1) s := by
  refine ⟨h.slen, fun no t ht => ?_, fun no t ht hl hs => ?_, fun x no hx => (h.mem x no hx).2, h.uniq, h.nodup⟩
  · obtain ⟨q, hq, h1 | ⟨_, _, _, h1 | ⟨_, h1, _⟩⟩⟩ := h.at_ no t ht
    · exact ⟨q, hq, h1.1⟩
    · simp at h1
    · exact h1.elim
  · obtain ⟨q, hq, h1 | ⟨_, _, _, h1 | ⟨_, h1, _⟩⟩⟩ := h.at_ no t ht
    · rw [hs] at hq
      cases hq
      exact h1.2 hl rfl
    · simp at h1
    · exact h1.elim

/-- What is known as soon as a try that commits was asked itself. -/
theorem WkInv.mid (h : WkInv e n len S i s) (hr : right e len = true) (hi : i < len) (h5 : (e i).k = 5) {no : Nat} {t : Tr} (ht : (tries e len)[no]? = some t) (hco : t.co = true) (hen : t.en = (i : Int)) (hS : S (before e i + 1) = app (S (before e i)) t.ac) :
    WkMid e n len S i (fun x => ∃ o : Nat, o ∈ writes n t.ac ∧ x = ((o : Int), S (before e (i + 1)) o)) [] (if fits n (S (before e i)) t.ac = true then ⟨s.seen.set no (before e i), s.M⟩ else s) := by
  have hbe : before e (i + 1) = before e i + 1 := by rw [before, if_pos h5]
  have hnol : no < s.seen.length := by rw [h.slen]; exact (List.getElem?_eq_some_iff.1 ht).1
  have hnoM : ∀ (x : Int × Int) (no' : Nat), no' ∈ s.M x → no' ≠ no := fun x no' hx e1 => by
    subst e1
    obtain ⟨t', g1, g2, _⟩ := h.mem x no' hx
    rw [ht] at g1
    cases g1
    rw [hco] at g2
    cases g2
  have hbi : ∀ (no' : Nat) (t' : Tr), (tries e len)[no']? = some t' → (t'.b < ((i + 1 : Nat) : Int) ↔ t'.b < (i : Int)) := fun no' t' ht' => by
    obtain ⟨b, _, _, h2, _, h3⟩ := tries_get ht'
    have : b ≠ i := fun e => by subst e; omega
    omega
  have hone : ∀ (no' : Nat) (t' : Tr), (tries e len)[no']? = some t' → t'.en = (i : Int) → no' = no := fun no' t' ht' he => by
    have := en_one e hr (List.mem_of_getElem? ht') (List.mem_of_getElem? ht) (by omega) (by omega)
    subst this
    exact tries_b_one ht' ht rfl
  have key : ∀ s1 : Wk, s1.M = s.M → s1.seen.length = s.seen.length → (∀ (no' : Nat), no' ≠ no → s1.seen[no']? = s.seen[no']?) → s1.seen[no]? = some (if fits n (S (before e i)) t.ac = true then (before e i : Int) else -1) →
      WkMid e n len S i (fun x => ∃ o : Nat, o ∈ writes n t.ac ∧ x = ((o : Int), S (before e (i + 1)) o)) [] s1 := by
    intro s1 hM hsl hso hsn
    refine ⟨hsl.trans h.slen, fun no' t' ht' => ?_, fun x no' hx => ⟨by simp, ?_⟩, fun no' hx => by simp at hx, List.nodup_nil, by rw [hM]; exact h.uniq, by rw [hM]; exact h.nodup⟩
    · by_cases e1 : no' = no
      · subst e1
        rw [ht] at ht'
        cases ht'
        refine ⟨_, hsn, .inl ⟨?_, fun hL => by rw [hL.1] at hco; cases hco⟩⟩
        unfold SeenAt
        rw [if_pos hco, hen, Int.toNat_natCast]
        by_cases hf : fits n (S (before e i)) t.ac = true
        · rw [if_pos hf, if_pos ⟨by omega, hf⟩]
        · rw [if_neg hf, if_neg (fun h => hf h.2)]
      · rw [hso no' e1, hM]
        obtain ⟨q, hq, hs⟩ := h.at_ no' t' ht'
        refine ⟨q, hq, ?_⟩
        by_cases hL : Live (i + 1) t'
        · obtain ⟨s1', s2', s3'⟩ := seen_live (q := q) (S := S) (n := n) hi h5 hr ht' hL
          by_cases hq1 : q = -1
          · subst hq1
            have hP := s1'.1 hs
            have hLi : Live i t' := ⟨hL.1, (hbi no' t' ht').1 hL.2.1, by have := hL.2.2; omega⟩
            rcases h.wait no' t' ht' hLi hq with hN | ⟨x, hx, hw⟩
            · exact .inl ⟨s2'.2 (hP.up0 (hN _)), fun _ _ => .inl hN⟩
            · by_cases hw' : Waits n (S (before e (i + 1))) x t'.ac
              · exact .inl ⟨s2'.2 (hP.up0 (by rw [← hbe]; exact waits_fits hw')), fun _ _ => .inr ⟨x, hx, hw'⟩⟩
              · refine .inr ⟨rfl, hL, hs, .inr ⟨x, ?_, hx⟩⟩
                obtain ⟨a, ha, h1, h2, h3⟩ := hw
                have h4 : holdsB n (S (before e (i + 1))) a = true := by
                  cases h4 : holdsB n (S (before e (i + 1))) a with
                  | true => rfl
                  | false => exact absurd ⟨a, ha, h1, h2, h4⟩ hw'
                unfold holdsB at h3 h4
                simp only [Bool.and_eq_true, decide_eq_true_eq, beq_iff_eq] at h4
                obtain ⟨⟨g1, g2⟩, g3⟩ := h4
                simp only [g1, g2, decide_true, Bool.true_and, beq_eq_false_iff_ne] at h3
                refine ⟨a.ob.toNat, app_writes (z := S (before e i)) (by omega) ?_, ?_⟩
                · rw [← hS, ← hbe, ← g3]
                  exact h3
                · rw [← h2, ← g3]
                  congr 1
                  omega
          · exact .inl ⟨s2'.2 ((s1'.1 hs).up hq1), fun _ h => absurd h hq1⟩
        · refine .inl ⟨?_, fun h => absurd h hL⟩
          unfold SeenAt at hs ⊢
          by_cases hc : t'.co = true
          · rw [if_pos hc] at hs ⊢
            have : t'.en < ((i + 1 : Nat) : Int) ↔ t'.en < (i : Int) := by
              have : t'.en ≠ (i : Int) := fun e2 => e1 (hone no' t' ht' e2)
              omega
            simpa only [this] using hs
          · rw [if_neg hc] at hs ⊢
            by_cases hlt : t'.b < (i : Int)
            · rw [if_pos hlt] at hs
              rw [if_pos ((hbi no' t' ht').2 hlt)]
              have hc' : t'.co = false := by simpa using hc
              have hen2 : ¬ t'.en < 0 ∧ t'.en < (i : Int) := by
                have : ¬ (t'.en < 0 ∨ ((i + 1 : Nat) : Int) ≤ t'.en) := fun h => hL ⟨hc', (hbi no' t' ht').2 hlt, h⟩
                have h2 : t'.en ≠ (i : Int) := fun e2 => e1 (hone no' t' ht' e2)
                omega
              have : endOf len t' ≤ i := by unfold endOf; rw [if_neg hen2.1]; omega
              rw [Nat.min_eq_right (by omega)]
              rwa [Nat.min_eq_right this] at hs
            · rw [if_neg hlt] at hs
              rw [if_neg (fun h => hlt ((hbi no' t' ht').1 h))]
              exact hs
    · rw [hM] at hx
      obtain ⟨t', g1, g2, g3, g4⟩ := h.mem x no' hx
      exact ⟨t', g1, g2, by omega, by rw [hso no' (hnoM x no' hx)]; exact g4⟩
  have hsn0 : s.seen[no]? = some (-1) := by
    obtain ⟨q, hq, hs⟩ := h.at_ no t ht
    unfold SeenAt at hs
    rw [if_pos hco, if_neg (by omega)] at hs
    rw [hq, hs]
  by_cases hf : fits n (S (before e i)) t.ac = true
  · rw [if_pos hf]
    refine key _ rfl (by simp) (fun no' hne => ?_) ?_
    · dsimp only
      rw [List.getElem?_set_ne (Ne.symm hne)]
    · rw [if_pos hf]
      exact List.getElem?_set_self hnol
  · rw [if_neg hf]
    exact key s rfl rfl (fun _ _ => rfl) (by rw [if_neg hf]; exact hsn0)

/-- An event at which a try commits. -/
theorem WkInv.commit (h : WkInv e n len S i s) (hr : right e len = true) (hi : i < len) (h5 : (e i).k = 5) {no : Nat} {t : Tr} (ht : (tries e len)[no]? = some t) (hco : t.co = true) (hen : t.en = (i : Int)) (hS : S (before e i + 1) = app (S (before e i)) t.ac) :
    WkInv e n len S (i + 1) (base.commit (tries e len) n (S (before e i)) (before e i) i t no s) := by
  have hbe : before e (i + 1) = before e i + 1 := by rw [before, if_pos h5]
  unfold base.commit
  rw [← hS]
  have := ((h.mid hr hi h5 ht hco hen hS).all hi h5 hr).done
  rw [hbe] at this
  exact this
end

/-- Behind all events. -/
theorem WkInv.whole {e : Evs} {n len : Nat} {S : Nat → Nat → Int} {s : Wk} (h : WkInv e n len S len s) {no : Nat} {t : Tr} (ht : (tries e len)[no]? = some t) : ∃ q, s.seen[no]? = some q ∧ SeenAt e n len len S t q := h.at_ no t ht
end Go.Proofs.Ytkidkhjpijjphaa.base

/- What a walk is told of an argument that is a slice: of integers, of bools, of structs of integers. Plain facts on memory, of no program. -/
namespace Go.Proofs.Ytkidkhjpijjphaa.base
open Go Go.RowKit Go.ChangeShapes Go.WideShapes Go.Deep

/-- A slice of integers: z tells its elements. -/
def IsRow (k : IntKind) (w : World) (a : Option Addr) (len cap : Nat) (z : Nat → Int) : Prop :=
  len ≤ cap ∧ cap ≤ maxLen ∧ (len = 0 ∨ ∃ b off, a = some ⟨b, off, none⟩ ∧ b < w.heap.size ∧ ∀ i, i < len → w.cell? ⟨b, off + i, none⟩ = some (.int k (z i)) ∧ (Lit.int k (z i)).wf = true)

/-- A slice of bools. -/
def IsBools (w : World) (a : Option Addr) (len cap : Nat) (z : Nat → Bool) : Prop :=
  len ≤ cap ∧ cap ≤ maxLen ∧ (len = 0 ∨ ∃ b off, a = some ⟨b, off, none⟩ ∧ b < w.heap.size ∧ ∀ i, i < len → w.cell? ⟨b, off + i, none⟩ = some (.bool (z i)))

/-- A slice of structs of n numbers of kind int: z i j is the field j of element i. -/
def IsInts (n : Nat) (w : World) (a : Option Addr) (len cap : Nat) (z : Nat → Nat → Int) : Prop :=
  len ≤ cap ∧ cap ≤ maxLen ∧ (len = 0 ∨ ∃ b off, a = some ⟨b, off, none⟩ ∧ b < w.heap.size ∧ ∀ i j, i < len → j < n → w.cell? ⟨b, off + (i * n + j), none⟩ = some (.int .i64 (z i j)) ∧ (Lit.int .i64 (z i j)).wf = true)

theorem IsRow.below {k : IntKind} {w w' : World} {a : Option Addr} {len cap : Nat} {z : Nat → Int} (h : IsRow k w a len cap z) (g : Below w.heap.size w w') : IsRow k w' a len cap z := by
  obtain ⟨q1, q2, q3⟩ := h
  refine ⟨q1, q2, ?_⟩
  rcases q3 with q3 | ⟨b, off, rfl, hb, hc⟩
  · exact .inl q3
  · exact .inr ⟨b, off, rfl, Nat.lt_of_lt_of_le hb g.size, fun i hi => ⟨(g.cell (p := ⟨b, off + i, none⟩) hb).trans (hc i hi).1, (hc i hi).2⟩⟩

section
variable {H : Type} {enc : TypeId × Value → H} {P : Program} {w : World} {base : Nat} {held : Bool} {t e : TypeId} {fuel : Nat} {a : Option Addr} {len cap : Nat} {x : DataW H × List MemPlace}

theorem add_eq (b off i : Nat) : (⟨b, off, none⟩ : Addr).add i = ⟨b, off + i, none⟩ := by
  unfold Addr.add
  split
  · next h => subst h; rfl
  · rfl

theorem plain_of {c : Addr} {v : Value} (h : w.cell? c = some v) : ∃ b off, c = ⟨b, off, none⟩ := by
  obtain ⟨b, off, spot⟩ := c
  have hs : spot = none := World.cell?_spot h
  exact ⟨b, off, by rw [hs]⟩

theorem isRow_of {k : IntKind} (ht : P.underlying t = some (.slice e)) (he : P.underlying e = some (.int k)) (hc : P.cellsOf e = 1) (h : DataW.trod enc P w base (fun _ => true) held fuel t (Value.slice a len cap).cells.toList = some x) : ∃ z, IsRow k w a len cap z := by
  rcases open_ints ht he hc h with ⟨hcs, _⟩ | ⟨c, l, m, zs, hcs, _, hl, hm, hz, _, hcell, hwz⟩
  · simp [Value.cells] at hcs
    obtain ⟨rfl, rfl, rfl⟩ := hcs
    exact ⟨fun _ => 0, Nat.le_refl _, Nat.zero_le _, .inl rfl⟩
  · simp [Value.cells] at hcs
    obtain ⟨rfl, rfl, rfl⟩ := hcs
    simp only [if_true] at hz
    refine ⟨fun i => zs.getD i 0, hl, hm, ?_⟩
    by_cases h0 : len = 0
    · exact .inl h0
    · obtain ⟨b, off, rfl⟩ := plain_of (hcell 0 (by omega))
      have hb := World.block_lt_of_cell? _ _ (hcell 0 (by omega))
      refine .inr ⟨b, off, rfl, by simpa [Addr.add] using hb, fun i hi => ⟨by rw [← add_eq]; exact hcell i (by omega), hwz _ ?_⟩⟩
      simp only [List.getD]
      rw [List.getElem?_eq_getElem (by omega)]
      exact List.getElem_mem _

theorem isBools_of (ht : P.underlying t = some (.slice e)) (he : P.underlying e = some .bool) (hc : P.cellsOf e = 1) (h : DataW.trod enc P w base (fun _ => true) held fuel t (Value.slice a len cap).cells.toList = some x) : ∃ z, IsBools w a len cap z := by
  rcases open_bools ht he hc h with ⟨hcs, _⟩ | ⟨c, l, m, B, hcs, _, hl, hm, _, hcell⟩
  · simp [Value.cells] at hcs
    obtain ⟨rfl, rfl, rfl⟩ := hcs
    exact ⟨fun _ => false, Nat.le_refl _, Nat.zero_le _, .inl rfl⟩
  · simp [Value.cells] at hcs
    obtain ⟨rfl, rfl, rfl⟩ := hcs
    refine ⟨B, hl, hm, ?_⟩
    by_cases h0 : len = 0
    · exact .inl h0
    · obtain ⟨b, off, rfl⟩ := plain_of (hcell 0 (by omega))
      have hb := World.block_lt_of_cell? _ _ (hcell 0 (by omega))
      exact .inr ⟨b, off, rfl, by simpa [Addr.add] using hb, fun i hi => by rw [← add_eq]; exact hcell i (by omega)⟩

theorem isInts_of {fs : Array Field} {ti : TypeId} {n : Nat} (ht : P.underlying t = some (.slice e)) (he : P.underlying e = some (.struct fs)) (hi : P.underlying ti = some (.int .i64)) (hci : P.cellsOf ti = 1) (hc : P.cellsOf e = n) (hn : 0 < n) (hfs : ∀ j, j < n → (fs[j]?.map fun f => (f.offset, f.type)) = some (j, ti))
    (h : DataW.trod enc P w base (fun _ => true) held fuel t (Value.slice a len cap).cells.toList = some x) : ∃ z, IsInts n w a len cap z := by
  rcases open_slice ht h with ⟨hcs, _⟩ | ⟨c, l, m, k, f, D, Pl, hcs, _, hl, hm, hk, _, hel⟩
  · simp [Value.cells] at hcs
    obtain ⟨rfl, rfl, rfl⟩ := hcs
    exact ⟨fun _ _ => 0, Nat.le_refl _, Nat.zero_le _, .inl rfl⟩
  · simp [Value.cells] at hcs
    obtain ⟨rfl, rfl, rfl⟩ := hcs
    simp only [if_true] at hk
    subst hk
    rw [hc] at hel
    have each : ∀ i, i < len → ∃ g : Nat → Int, ∀ j, j < n → w.cell? (c.add (i * n + j)) = some (.int .i64 (g j)) ∧ (Lit.int .i64 (g j)).wf = true := by
      intro i hi'
      obtain ⟨cs', h1, h2⟩ := hel i (by omega)
      obtain ⟨_, hlen, hcell⟩ := World.cells?_some h1
      obtain ⟨xs, n', _, _, hl1, _, hf⟩ := DataW.trod_struct he h2
      obtain ⟨g, hg⟩ := choose_lt (α := Int) (n := n) (p := fun j v => cs'[j]? = some (.int .i64 v) ∧ (Lit.int .i64 v).wf = true) (fun j hj => by
        have e1 := hfs j hj
        obtain ⟨fj, hfj, e2⟩ := Option.map_eq_some_iff.1 e1
        simp only [Prod.mk.injEq] at e2
        have e3 := hf j fj hfj
        rw [e2.1, e2.2, hci] at e3
        have hxs : j < xs.length := by
          rcases Nat.lt_or_ge j xs.length with h' | h'
          · exact h'
          · rename_i hsz
            have := (Array.getElem?_eq_some_iff.1 hfj).1
            omega
        rw [List.getElem?_eq_getElem hxs] at e3
        obtain ⟨v, hv, _, hw⟩ := DataW.trod_int hi e3
        refine ⟨v, ?_, hw⟩
        have : (cs'.drop j).take 1 = [.int .i64 v] := by simpa using hv
        have h0 : ((cs'.drop j).take 1)[0]? = some (.int .i64 v) := by rw [this]; rfl
        simpa using h0)
      refine ⟨g, fun j hj => ⟨?_, (hg j hj).2⟩⟩
      rw [← add_add, hcell j hj]
      exact (hg j hj).1
    obtain ⟨z, hz⟩ := choose_lt (α := Nat → Int) each
    refine ⟨z, hl, hm, ?_⟩
    by_cases h0 : len = 0
    · exact .inl h0
    · obtain ⟨b, off, hbo⟩ := plain_of (hz 0 (by omega) 0 (by omega)).1
      have hb := World.block_lt_of_cell? _ _ (hz 0 (by omega) 0 (by omega)).1
      have hc0 : c = ⟨b, off, none⟩ := by simpa [Addr.add] using hbo
      subst hc0
      refine .inr ⟨b, off, rfl, by simpa [Addr.add] using hb, fun i j hi hj => ⟨by rw [← add_eq]; exact (hz i hi j hj).1, (hz i hi j hj).2⟩⟩

/-- .. of structs whose fields are of two integer types (int and int64, say). -/
theorem isMixed_of {fs : Array Field} {t1 t2 : TypeId} {n : Nat} (ht : P.underlying t = some (.slice e)) (he : P.underlying e = some (.struct fs)) (hi1 : P.underlying t1 = some (.int .i64)) (hi2 : P.underlying t2 = some (.int .i64)) (hc1 : P.cellsOf t1 = 1) (hc2 : P.cellsOf t2 = 1) (hc : P.cellsOf e = n) (hn : 0 < n) (hfs : ∀ j, j < n → (fs[j]?.map fun f => (f.offset, f.type)) = some (j, t1) ∨ (fs[j]?.map fun f => (f.offset, f.type)) = some (j, t2))
    (h : DataW.trod enc P w base (fun _ => true) held fuel t (Value.slice a len cap).cells.toList = some x) : ∃ z, IsInts n w a len cap z := by
  rcases open_slice ht h with ⟨hcs, _⟩ | ⟨c, l, m, k, f, D, Pl, hcs, _, hl, hm, hk, _, hel⟩
  · simp [Value.cells] at hcs
    obtain ⟨rfl, rfl, rfl⟩ := hcs
    exact ⟨fun _ _ => 0, Nat.le_refl _, Nat.zero_le _, .inl rfl⟩
  · simp [Value.cells] at hcs
    obtain ⟨rfl, rfl, rfl⟩ := hcs
    simp only [if_true] at hk
    subst hk
    rw [hc] at hel
    have each : ∀ i, i < len → ∃ g : Nat → Int, ∀ j, j < n → w.cell? (c.add (i * n + j)) = some (.int .i64 (g j)) ∧ (Lit.int .i64 (g j)).wf = true := by
      intro i hi'
      obtain ⟨cs', h1, h2⟩ := hel i (by omega)
      obtain ⟨_, hlen, hcell⟩ := World.cells?_some h1
      obtain ⟨xs, n', _, _, hl1, _, hf⟩ := DataW.trod_struct he h2
      obtain ⟨g, hg⟩ := choose_lt (α := Int) (n := n) (p := fun j v => cs'[j]? = some (.int .i64 v) ∧ (Lit.int .i64 v).wf = true) (fun j hj => by
        obtain ⟨ti, e1, hi, hci⟩ : ∃ ti, (fs[j]?.map fun f => (f.offset, f.type)) = some (j, ti) ∧ P.underlying ti = some (.int .i64) ∧ P.cellsOf ti = 1 := by
          rcases hfs j hj with e | e
          · exact ⟨_, e, hi1, hc1⟩
          · exact ⟨_, e, hi2, hc2⟩
        obtain ⟨fj, hfj, e2⟩ := Option.map_eq_some_iff.1 e1
        simp only [Prod.mk.injEq] at e2
        have e3 := hf j fj hfj
        rw [e2.1, e2.2, hci] at e3
        have hxs : j < xs.length := by
          rcases Nat.lt_or_ge j xs.length with h' | h'
          · exact h'
          · rename_i hsz
            have := (Array.getElem?_eq_some_iff.1 hfj).1
            omega
        rw [List.getElem?_eq_getElem hxs] at e3
        obtain ⟨v, hv, _, hw⟩ := DataW.trod_int hi e3
        refine ⟨v, ?_, hw⟩
        have : (cs'.drop j).take 1 = [.int .i64 v] := by simpa using hv
        have h0 : ((cs'.drop j).take 1)[0]? = some (.int .i64 v) := by rw [this]; rfl
        simpa using h0)
      refine ⟨g, fun j hj => ⟨?_, (hg j hj).2⟩⟩
      rw [← add_add, hcell j hj]
      exact (hg j hj).1
    obtain ⟨z, hz⟩ := choose_lt (α := Nat → Int) each
    refine ⟨z, hl, hm, ?_⟩
    by_cases h0 : len = 0
    · exact .inl h0
    · obtain ⟨b, off, hbo⟩ := plain_of (hz 0 (by omega) 0 (by omega)).1
      have hb := World.block_lt_of_cell? _ _ (hz 0 (by omega) 0 (by omega)).1
      have hc0 : c = ⟨b, off, none⟩ := by simpa [Addr.add] using hbo
      subst hc0
      refine .inr ⟨b, off, rfl, by simpa [Addr.add] using hb, fun i j hi hj => ⟨by rw [← add_eq]; exact (hz i hi j hj).1, (hz i hi j hj).2⟩⟩

/-- A struct by value, of n numbers of two integer types. -/
theorem isAgg_of {fs : Array Field} {t1 t2 : TypeId} {n : Nat} {cs : Array Value} (he : P.underlying t = some (.struct fs)) (hi1 : P.underlying t1 = some (.int .i64)) (hi2 : P.underlying t2 = some (.int .i64)) (hc1 : P.cellsOf t1 = 1) (hc2 : P.cellsOf t2 = 1) (hsz : cs.size = n)
    (hfs : ∀ j, j < n → (fs[j]?.map fun f => (f.offset, f.type)) = some (j, t1) ∨ (fs[j]?.map fun f => (f.offset, f.type)) = some (j, t2))
    (h : DataW.trod enc P w base (fun _ => true) held fuel t (Value.agg cs).cells.toList = some x) : ∃ z : Nat → Int, (∀ j, j < n → (Lit.int .i64 (z j)).wf = true) ∧ cs = ⟨(List.range n).map fun j => .int .i64 (z j)⟩ := by
  obtain ⟨xs, n', _, _, hl1, _, hf⟩ := DataW.trod_struct he h
  obtain ⟨g, hg⟩ := choose_lt (α := Int) (n := n) (p := fun j v => cs.toList[j]? = some (.int .i64 v) ∧ (Lit.int .i64 v).wf = true) (fun j hj => by
    obtain ⟨ti, e1, hi, hci⟩ : ∃ ti, (fs[j]?.map fun f => (f.offset, f.type)) = some (j, ti) ∧ P.underlying ti = some (.int .i64) ∧ P.cellsOf ti = 1 := by
      rcases hfs j hj with e | e
      · exact ⟨_, e, hi1, hc1⟩
      · exact ⟨_, e, hi2, hc2⟩
    obtain ⟨fj, hfj, e2⟩ := Option.map_eq_some_iff.1 e1
    simp only [Prod.mk.injEq] at e2
    have e3 := hf j fj hfj
    rw [e2.1, e2.2, hci] at e3
    have hxs : j < xs.length := by
      rcases Nat.lt_or_ge j xs.length with h' | h'
      · exact h'
      · have := (Array.getElem?_eq_some_iff.1 hfj).1
        omega
    rw [List.getElem?_eq_getElem hxs] at e3
    obtain ⟨v, hv, _, hw⟩ := DataW.trod_int hi e3
    refine ⟨v, ?_, hw⟩
    have : ((Value.agg cs).cells.toList.drop j).take 1 = [.int .i64 v] := by simpa using hv
    have h0 : (((Value.agg cs).cells.toList.drop j).take 1)[0]? = some (.int .i64 v) := by rw [this]; rfl
    simpa [Value.cells] using h0)
  refine ⟨g, fun j hj => (hg j hj).2, ?_⟩
  apply Array.ext'
  apply List.ext_getElem?
  intro j
  by_cases hj : j < n
  · rw [(hg j hj).1]
    simp [hj]
  · rw [List.getElem?_eq_none (by simpa [hsz] using hj), List.getElem?_eq_none (by simpa using hj)]

/-- A slice of arrays of n numbers. -/
theorem isArrs_of {ti : TypeId} {n : Nat} (ht : P.underlying t = some (.slice e)) (he : P.underlying e = some (.array n ti)) (hi : P.underlying ti = some (.int .i64)) (hci : P.cellsOf ti = 1) (hc : P.cellsOf e = n) (hn : 0 < n)
    (h : DataW.trod enc P w base (fun _ => true) held fuel t (Value.slice a len cap).cells.toList = some x) : ∃ z, IsInts n w a len cap z := by
  rcases open_slice ht h with ⟨hcs, _⟩ | ⟨c, l, m, k, f, D, Pl, hcs, _, hl, hm, hk, _, hel⟩
  · simp [Value.cells] at hcs
    obtain ⟨rfl, rfl, rfl⟩ := hcs
    exact ⟨fun _ _ => 0, Nat.le_refl _, Nat.zero_le _, .inl rfl⟩
  · simp [Value.cells] at hcs
    obtain ⟨rfl, rfl, rfl⟩ := hcs
    simp only [if_true] at hk
    subst hk
    rw [hc] at hel
    have each : ∀ i, i < len → ∃ g : Nat → Int, ∀ j, j < n → w.cell? (c.add (i * n + j)) = some (.int .i64 (g j)) ∧ (Lit.int .i64 (g j)).wf = true := by
      intro i hi'
      obtain ⟨cs', h1, h2⟩ := hel i (by omega)
      obtain ⟨_, hlen, hcell⟩ := World.cells?_some h1
      obtain ⟨xs, n', _, _, _, hl1, hf⟩ := DataW.trod_array he h2
      obtain ⟨g, hg⟩ := choose_lt (α := Int) (n := n) (p := fun j v => cs'[j]? = some (.int .i64 v) ∧ (Lit.int .i64 v).wf = true) (fun j hj => by
        have e3 := hf j hj
        rw [hci] at e3
        rw [List.getElem?_eq_getElem (by omega)] at e3
        obtain ⟨v, hv, _, hw⟩ := DataW.trod_int hi e3
        refine ⟨v, ?_, hw⟩
        have : (cs'.drop j).take 1 = [.int .i64 v] := by simpa using hv
        have h0 : ((cs'.drop j).take 1)[0]? = some (.int .i64 v) := by rw [this]; rfl
        simpa using h0)
      refine ⟨g, fun j hj => ⟨?_, (hg j hj).2⟩⟩
      rw [← add_add, hcell j hj]
      exact (hg j hj).1
    obtain ⟨z, hz⟩ := choose_lt (α := Nat → Int) each
    refine ⟨z, hl, hm, ?_⟩
    by_cases h0 : len = 0
    · exact .inl h0
    · obtain ⟨b, off, hbo⟩ := plain_of (hz 0 (by omega) 0 (by omega)).1
      have hb := World.block_lt_of_cell? _ _ (hz 0 (by omega) 0 (by omega)).1
      have hc0 : c = ⟨b, off, none⟩ := by simpa [Addr.add] using hbo
      subst hc0
      refine .inr ⟨b, off, rfl, by simpa [Addr.add] using hb, fun i j hi hj => ⟨by rw [← add_eq]; exact (hz i hi j hj).1, (hz i hi j hj).2⟩⟩
end
end Go.Proofs.Ytkidkhjpijjphaa.base

/- Plain facts on memory, of no program: a block of two cells that a call writes, and that nothing else turns; 'grownBy' handed on step by step. -/
namespace Go.Proofs.Ytkidkhjpijjphaa.base
open Go Go.RowKit

/-- What grew by new blocks alone is as it was below them. -/
theorem gb_below {a w : World} (h : a.grownBy w none) : Below a.heap.size a w := ⟨h.os, h.tape, h.output, h.size, fun k hk => h.block k hk (by simp)⟩
theorem gb_refl (w : World) (r : Option Nat) : w.grownBy w r := ⟨rfl, rfl, rfl, Nat.le_refl _, fun _ _ _ => rfl⟩
theorem gb_trans {a b c : World} {r : Option Nat} (h : a.grownBy b r) (k : b.grownBy c r) : a.grownBy c r :=
  ⟨k.os.trans h.os, k.tape.trans h.tape, k.output.trans h.output, Nat.le_trans h.size k.size, fun i hi hn => (k.block i (Nat.lt_of_lt_of_le hi h.size) hn).trans (h.block i hi hn)⟩
theorem gb_drew {a w : World} {r : Option Nat} (h : a.grownBy w r) : a.grownBy w.drew r := ⟨h.os, h.tape, h.output, h.size, h.block⟩
theorem gb_drewN {a w : World} {r : Option Nat} (h : a.grownBy w r) (n : Nat) : a.grownBy (w.drewN n) r := ⟨h.os, h.tape, h.output, h.size, h.block⟩
theorem gb_alloc {a w : World} {r : Option Nat} (h : a.grownBy w r) (o : Obj) : a.grownBy (w.alloc o) r :=
  gb_trans h (World.grownBy_alloc w o r)
theorem gb_setCell {a w : World} {r : Option Nat} (h : a.grownBy w r) {p : Addr} (hp : some p.block = r) (u : Value) : a.grownBy (w.setCell p u) r :=
  gb_trans h ⟨rfl, rfl, rfl, by simp [World.setCell], fun k _ hn => Below.heap_setCell _ _ _ _ (fun e => hn (by rw [e]; exact hp))⟩
theorem gb_setB {a w : World} {b i : Nat} (h : a.grownBy w (some b)) (u : Value) : a.grownBy (w.setCell ⟨b, i, none⟩ u) (some b) := gb_setCell h rfl u
theorem gb_setNew {a w : World} {r : Option Nat} (h : a.grownBy w r) {p : Addr} (hp : a.heap.size ≤ p.block) (u : Value) : a.grownBy (w.setCell p u) r :=
  ⟨h.os, h.tape, h.output, by have := h.size; simpa [World.setCell] using this, fun k hk hn => (Below.heap_setCell _ _ _ _ (by omega)).trans (h.block k hk hn)⟩

/-- A cell elsewhere, that may be written, stays both. -/
theorem gb_cellF {w w' : World} {r : Option Nat} {p : Addr} {v : Value} (g : w.grownBy w' r) (hc : w.cell? p = some v) (hf : w.frozen? p = false) (hr : some p.block ≠ r) : w'.cell? p = some v ∧ w'.frozen? p = false := by
  have e := g.block p.block (World.block_lt_of_cell? w p hc) hr
  refine ⟨(World.cell?_of_block e).trans hc, ?_⟩
  unfold World.frozen? at hf ⊢
  rw [e]
  exact hf

/-- A step that writes a block that is new changes nothing that was there. -/
theorem gb_new {a b c : World} (h : a.grownBy b none) (k : b.grownBy c (some a.heap.size)) : a.grownBy c none :=
  ⟨k.os.trans h.os, k.tape.trans h.tape, k.output.trans h.output, Nat.le_trans h.size k.size, fun i hi hn => (k.block i (Nat.lt_of_lt_of_le hi h.size) (by simp; omega)).trans (h.block i hi hn)⟩

theorem gb_over {a b c : World} {i : Nat} (h : a.grownBy b none) (k : b.grownBy c (some i)) (hi : a.heap.size ≤ i) : a.grownBy c none :=
  ⟨k.os.trans h.os, k.tape.trans h.tape, k.output.trans h.output, Nat.le_trans h.size k.size, fun j hj hn => (k.block j (Nat.lt_of_lt_of_le hj h.size) (by simp; omega)).trans (h.block j hj hn)⟩

theorem gb_overO {a b c : World} {r : Option Nat} (h : a.grownBy b none) (k : b.grownBy c r) (hi : ∀ i, r = some i → a.heap.size ≤ i) : a.grownBy c none :=
  ⟨k.os.trans h.os, k.tape.trans h.tape, k.output.trans h.output, Nat.le_trans h.size k.size, fun j hj hn => (k.block j (Nat.lt_of_lt_of_le hj h.size) (fun e => by have := hi j e.symm; omega)).trans (h.block j hj hn)⟩

/-- Steps of a call: what was there when it began stays as it was. -/
theorem bl_own {a w w' : World} {b : Nat} (h : Below a.heap.size a w) (g : w.grownBy w' (some b)) (hb : a.heap.size ≤ b) : Below a.heap.size a w' :=
  h.grown g h.size (fun k hk => by cases hk; exact hb)
theorem bl_none {a w w' : World} (h : Below a.heap.size a w) (g : w.grownBy w' none) : Below a.heap.size a w' :=
  h.grown g h.size (fun k hk => by cases hk)

theorem bl_weak {B B' : Nat} {a w : World} (h : Below B a w) (hb : B' ≤ B) : Below B' a w := ⟨h.os, h.tape, h.output, h.size, fun k hk => h.block k (by omega)⟩

/-- Block b has two cells, both numbers of kind int, and may be written. -/
def Two (t : TypeId) (w : World) (b : Nat) (n a : Int) : Prop := w.heap[b]? = some (.cells #[.int .i64 n, .int .i64 a] t (0, 0))

section
variable {t : TypeId} {w w' : World} {b : Nat} {n a : Int}
theorem Two.lt (h : Two t w b n a) : b < w.heap.size := (Array.getElem?_eq_some_iff.1 h).1
theorem Two.c0 (h : Two t w b n a) : w.cell? ⟨b, 0, none⟩ = some (.int .i64 n) := by unfold Two at h; simp [World.cell?, h]
theorem Two.c1 (h : Two t w b n a) : w.cell? ⟨b, 1, none⟩ = some (.int .i64 a) := by unfold Two at h; simp [World.cell?, h]
theorem Two.f0 (h : Two t w b n a) : w.frozen? ⟨b, 0, none⟩ = false := by unfold Two at h; simp [World.frozen?, h]
theorem Two.f1 (h : Two t w b n a) : w.frozen? ⟨b, 1, none⟩ = false := by unfold Two at h; simp [World.frozen?, h]
theorem Two.set0 (h : Two t w b n a) (m : Int) : Two t (w.setCell ⟨b, 0, none⟩ (.int .i64 m)) b m a := by
  have hl := h.lt
  unfold Two at h ⊢
  have h' : w.heap[b] = .cells #[.int .i64 n, .int .i64 a] t (0, 0) := by simpa [Array.getElem?_eq_getElem hl] using h
  show (w.heap.modify b _)[b]? = _
  rw [Array.getElem?_eq_getElem (by simpa using hl), Array.getElem_modify_self, h']
  rfl
theorem Two.set1 (h : Two t w b n a) (m : Int) : Two t (w.setCell ⟨b, 1, none⟩ (.int .i64 m)) b n m := by
  have hl := h.lt
  unfold Two at h ⊢
  have h' : w.heap[b] = .cells #[.int .i64 n, .int .i64 a] t (0, 0) := by simpa [Array.getElem?_eq_getElem hl] using h
  show (w.heap.modify b _)[b]? = _
  rw [Array.getElem?_eq_getElem (by simpa using hl), Array.getElem_modify_self, h']
  rfl
theorem Two.alloc (h : Two t w b n a) (o : Obj) : Two t (w.alloc o) b n a := (Below.heap_alloc w o b h.lt).trans h
theorem Two.setOther (h : Two t w b n a) {p : Addr} (hp : b ≠ p.block) (u : Value) : Two t (w.setCell p u) b n a := (Below.heap_setCell w p u b hp).trans h
theorem Two.drew (h : Two t w b n a) : Two t w.drew b n a := h
theorem Two.drewN (h : Two t w b n a) (k : Nat) : Two t (w.drewN k) b n a := h
theorem Two.grown (h : Two t w b n a) {r : Option Nat} (hg : w.grownBy w' r) (hr : some b ≠ r) : Two t w' b n a := (hg.block b h.lt hr).trans h
theorem Two.below (h : Two t w b n a) {B : Nat} (hg : Below B w w') (hr : b < B) : Two t w' b n a := (hg.block b hr).trans h
theorem Two.made (w : World) (t : TypeId) (n a : Int) : Two t (w.alloc (.cells #[.int .i64 n, .int .i64 a] t)) w.heap.size n a := heap_alloc_new w _
end
/-- Only blocks of S, and new ones, were written. -/
structure Only (S : Nat → Prop) (w w' : World) : Prop where
  os : w'.os = w.os
  tape : w'.tape = w.tape
  output : w'.output = w.output
  size : w.heap.size ≤ w'.heap.size
  block : ∀ k, k < w.heap.size → ¬ S k → w'.heap[k]? = w.heap[k]?

section
variable {S S' : Nat → Prop} {w w' w'' : World}
theorem Only.refl (S : Nat → Prop) (w : World) : Only S w w := ⟨rfl, rfl, rfl, Nat.le_refl _, fun _ _ _ => rfl⟩
theorem Only.trans (h : Only S w w') (k : Only S w' w'') : Only S w w'' :=
  ⟨k.os.trans h.os, k.tape.trans h.tape, k.output.trans h.output, Nat.le_trans h.size k.size, fun i hi hn => (k.block i (Nat.lt_of_lt_of_le hi h.size) hn).trans (h.block i hi hn)⟩
theorem Only.mono (h : Only S w w') (hs : ∀ k, k < w.heap.size → S k → S' k) : Only S' w w' := ⟨h.os, h.tape, h.output, h.size, fun i hi hn => h.block i hi (fun e => hn (hs i hi e))⟩
theorem Only.of {r : Option Nat} (h : w.grownBy w' r) (hs : ∀ k, r = some k → k < w.heap.size → S k) : Only S w w' := ⟨h.os, h.tape, h.output, h.size, fun i hi hn => h.block i hi (fun e => hn (hs i e.symm hi))⟩
theorem Only.none (h : w.grownBy w' none) : Only S w w' := Only.of h (fun _ e => by cases e)
theorem Only.below {B : Nat} {w0 : World} (h : Only S w w') (k : Below B w0 w) (hb : B ≤ w.heap.size) (hs : ∀ i, S i → B ≤ i) : Below B w0 w' :=
  k.trans ⟨h.os, h.tape, h.output, h.size, fun i hi => h.block i (by omega) (fun e => by have := hs i e; omega)⟩
theorem Two.only {t : TypeId} {b : Nat} {n a : Int} (h : Two t w b n a) (g : Only S w w') (hb : ¬ S b) : Two t w' b n a := (g.block b h.lt hb).trans h
end

/-- What lies in the blocks of F was changed, and new blocks were made; what is now in those of F'. -/
structure Step (F F' : Nat → Prop) (w w' : World) : Prop where
  only : Only F w w'
  foot : ∀ k, F' k → F k ∨ w.heap.size ≤ k

section
variable {F F' F'' G : Nat → Prop} {w w' w'' : World}
theorem Step.refl (F : Nat → Prop) (w : World) : Step F F w w := ⟨Only.refl _ _, fun _ h => .inl h⟩
theorem Step.none (h : w.grownBy w' none) : Step F F w w' := ⟨Only.none h, fun _ h => .inl h⟩
theorem Step.trans (h : Step F F' w w') (k : Step F' F'' w' w'') : Step F F'' w w'' := by
  refine ⟨⟨k.only.os.trans h.only.os, k.only.tape.trans h.only.tape, k.only.output.trans h.only.output, Nat.le_trans h.only.size k.only.size, fun i hi hn => ?_⟩, fun i hi => ?_⟩
  · have h1 := h.only.block i hi hn
    have h2 := k.only.block i (Nat.lt_of_lt_of_le hi h.only.size) (fun e => by
      rcases h.foot i e with h3 | h3
      · exact hn h3
      · omega)
    exact h2.trans h1
  · have := h.only.size
    rcases k.foot i hi with h1 | h1
    · rcases h.foot i h1 with h2 | h2
      · exact .inl h2
      · exact .inr h2
    · exact .inr (by omega)
theorem Step.of {r : Option Nat} (h : w.grownBy w' r) (hr : ∀ k, r = some k → F k) : Step F F w w' := ⟨Only.of h (fun k e _ => hr k e), fun _ h => .inl h⟩
theorem Step.low {B : Nat} {w0 : World} (h : Step F F' w w') (k : Below B w0 w) (hb : B ≤ w.heap.size) (hs : ∀ i, F i → B ≤ i) : Below B w0 w' := h.only.below k hb hs

/-- Two that have no block in common. -/
def Sep (F G : Nat → Prop) : Prop := ∀ k, F k → ¬ G k
theorem Sep.symm (h : Sep F G) : Sep G F := fun k hg hf => h k hf hg
theorem Sep.step (h : Sep F G) (s : Step F F' w w') (hg : ∀ k, G k → k < w.heap.size) : Sep F' G := fun k hf' hg' => by
  rcases s.foot k hf' with hf | hl
  · exact h k hf hg'
  · have := hg k hg'; omega
theorem Sep.new (hf : ∀ k, F k → w.heap.size ≤ k) (hg : ∀ k, G k → k < w.heap.size) : Sep F G := fun k h1 h2 => by have := hf k h1; have := hg k h2; omega
end
end Go.Proofs.Ytkidkhjpijjphaa.base

/- A struct of a slice and a number, behind a pointer, whose slice is appended to: plain facts on memory, of no program. -/
namespace Go.Proofs.Ytkidkhjpijjphaa.base
open Go Go.RowKit

section
variable {P : Program}

/-- append of something onto a slice of one's own: the row is the old one, or in a new block. -/
theorem run_append_at (w : World) (base : Nat) (t ty e : TypeId) (i : TypeInfo) (z : Value) (size bytes : Nat) (ht : P.underlying t = some (.slice e)) (hi : P.info? e = some i) (hz : i.zero = some z)
    (hsize : i.size = size) (hby : i.bytes = bytes) (hzs : z.cells.size = size) (hsz : 0 < size)
    (v : Value) (n : Nat) (xs : List Value) (hown : w.ownsRow base e size v n xs)
    (a : Addr) (m c : Nat) (news : List Value) (hl : news.length = m * size) (hnews : ∀ j u, news[j]? = some u → w.cell? (a.add j) = some u) (h1 : ∀ u ∈ news, u.oneCell' = true)
    (h63 : n + m ≤ maxLen) (hbytes : (n + m) * bytes ≤ 140737488355328) (hbase : base ≤ w.heap.size) :
    ∃ v' w', (Builtin.append_ #[t, t] ty #[v, .slice (some a) m c]).run P w = .ok v' w' ∧ w'.ownsRow base e size v' (n + m) (xs ++ news) ∧ w.grownBy w' v.ownBlock ∧
      (v'.ownBlock = v.ownBlock ∨ ∃ k, v'.ownBlock = some k ∧ w.heap.size ≤ k) := by
  obtain ⟨v', w', hr, ho, hg, _⟩ := run_append_own (P := P) w base t ty e i z size bytes ht hi hz hsize hby hzs hsz v n xs hown a m c news hl hnews h1 h63 hbytes hbase
  refine ⟨v', w', hr, ho, hg, ?_⟩
  have fresh : ∀ v2 w2, (Builtin.append_ #[t, t] ty #[v, .slice (some a) m c]).run P w = .ok v2 w2 → w2.ownsRow w.heap.size e size v2 (n + m) (xs ++ news) → v'.ownBlock = none ∨ ∃ k, v'.ownBlock = some k ∧ w.heap.size ≤ k := by
    intro v2 w2 h2 o2
    rw [hr] at h2
    obtain ⟨rfl, rfl⟩ : v' = v2 ∧ w' = w2 := by injection h2 with h3 h4; exact ⟨h3, h4⟩
    cases hv : v'.ownBlock with
    | none => exact .inl rfl
    | some k => exact .inr ⟨k, rfl, (o2.lt k hv).1⟩
  rcases hown.2 with ⟨rfl, rfl⟩ | ⟨g, cap, cur, rfl, hbg, hgg, hnc, hcm, hcs, htake⟩
  · have hx : xs = [] := List.eq_nil_of_length_eq_zero (by simpa using hown.1)
    subst hx
    obtain ⟨v2, w2, h2, o2, _⟩ := run_append_own (P := P) w w.heap.size t ty e i z size bytes ht hi hz hsize hby hzs hsz (.slice none 0 0) 0 [] (World.ownsRow_nil w _ e size) a m c news hl hnews h1 h63 hbytes (Nat.le_refl _)
    rcases fresh v2 w2 h2 o2 with h | h
    · exact .inl h
    · exact .inr h
  · by_cases hroom : n + m ≤ cap
    · subst hsize
      have hfit : n * i.size + news.length ≤ cur.size := by rw [hl, hcs, ← Nat.add_mul]; exact Nat.mul_le_mul_right _ hroom
      have h2 := run_append_room (P := P) w t ty e i ht hi g n cap cur hgg a m c news hl hnews h1 hroom hfit
      rw [hr] at h2
      injection h2 with h3 h4
      exact .inl (by rw [h3]; rfl)
    · have holds : ∀ j u, xs[j]? = some u → w.cell? ((⟨g, 0, none⟩ : Addr).add j) = some u := hown.cells (g := g) rfl
      obtain ⟨v2, w2, h2, o2, _⟩ := run_append_arg_grows (P := P) w t ty e i z size bytes ht hi hz hsize hby hzs hsz ⟨g, 0, none⟩ n cap xs hown.1 holds a m c news hl hnews (by omega) h63 hbytes
      rcases fresh v2 w2 h2 o2 with h | h
      · exfalso
        rcases o2.2 with ⟨rfl, h0⟩ | ⟨g2, cap2, cur2, rfl, _⟩
        · omega
        · rw [hr] at h2
          injection h2 with h3 h4
          rw [h3] at h
          simp [Value.ownBlock] at h
      · exact .inr h

theorem wpList_append_at (w : World) {ops : Array Oper} {rest : List Oper} {o : Oper} {a : Act} {Q : Exit → Act → World → Prop}
    (hgd : o.guard = none) (s x : Operand) (t : TypeId) (hop : o.op = Op.call { callee := Callee.builtin Builtin.append, args := #[s, x], argTypes := #[t, t] })
    (base : Nat) (e : TypeId) (i : TypeInfo) (z : Value) (size bytes : Nat) (h1 : P.underlying t = some (.slice e)) (h2 : P.info? e = some i) (h3 : i.zero = some z) (h4 : i.size = size) (h5 : i.bytes = bytes) (h6 : z.cells.size = size) (h7 : 0 < size)
    (v : Value) (n : Nat) (xs : List Value) (hs : a.eval s = v) (hown : w.ownsRow base e size v n xs)
    (ad : Addr) (m c : Nat) (news : List Value) (hx : a.eval x = .slice (some ad) m c) (hl : news.length = m * size) (hnews : ∀ j u, news[j]? = some u → w.cell? (ad.add j) = some u) (h1c : ∀ u ∈ news, u.oneCell' = true)
    (h63 : n + m ≤ maxLen) (hbytes : (n + m) * bytes ≤ 140737488355328) (hbase : base ≤ w.heap.size) (hm : 0 < m)
    (hK : ∀ g cap w', w'.ownsRow base e size (.slice (some ⟨g, 0, none⟩) (n + m) cap) (n + m) (xs ++ news) → w.grownBy w' v.ownBlock → (some g = v.ownBlock ∨ w.heap.size ≤ g) → wpList P ops Q rest (a.put o.dst (.slice (some ⟨g, 0, none⟩) (n + m) cap)) w') :
    wpList P ops Q (o :: rest) a w := by
  refine wpList_plain hgd fun K hK' => ?_
  obtain ⟨v', w', hrun, r1, r2, r3⟩ := run_append_at (P := P) w base t o.type e i z size bytes h1 h2 h3 h4 h5 h6 h7 v n xs hown ad m c news hl hnews h1c h63 hbytes hbase
  have r0 := r1
  rcases r0.2 with ⟨_, h0⟩ | ⟨g, cap, _, rfl, _⟩
  · omega
  unfold Oper.wp
  simp [execOp, hop, resolve, invoke, builtin, hs, hx, hrun, Result.andThen]
  exact hK' _ _ (hK g cap w' r1 r2 (by
    rcases r3 with h | ⟨k, h, hk⟩
    · exact .inl h
    · cases h; exact .inr hk))

/-- The same as one step of a region that draws its order. -/
theorem step_append_at {ops : Array Oper} {o : Oper} {a : Act} {w : World} {K : Act → World → Prop} {Q : Exit → Act → World → Prop} {E : Prop}
    (hg : o.guard = none) (s x : Operand) (t : TypeId) (hop : o.op = Op.call { callee := Callee.builtin Builtin.append, args := #[s, x], argTypes := #[t, t] })
    (base : Nat) (e : TypeId) (i : TypeInfo) (z : Value) (size bytes : Nat) (h1 : P.underlying t = some (.slice e)) (h2 : P.info? e = some i) (h3 : i.zero = some z) (h4 : i.size = size) (h5 : i.bytes = bytes) (h6 : z.cells.size = size) (h7 : 0 < size)
    (v : Value) (n : Nat) (xs : List Value) (hs : a.eval s = v) (hown : w.ownsRow base e size v n xs)
    (ad : Addr) (m c : Nat) (news : List Value) (hx : a.eval x = .slice (some ad) m c) (hl : news.length = m * size) (hnews : ∀ j u, news[j]? = some u → w.cell? (ad.add j) = some u) (h1c : ∀ u ∈ news, u.oneCell' = true)
    (h63 : n + m ≤ maxLen) (hbytes : (n + m) * bytes ≤ 140737488355328) (hbase : base ≤ w.heap.size) (hm : 0 < m)
    (hK : ∀ g cap w', w'.ownsRow base e size (.slice (some ⟨g, 0, none⟩) (n + m) cap) (n + m) (xs ++ news) → w.grownBy w' v.ownBlock → (some g = v.ownBlock ∨ w.heap.size ≤ g) → K (a.put o.dst (.slice (some ⟨g, 0, none⟩) (n + m) cap)) w') :
    if Region.wanted o (yielded ops a.tmps) = true then Oper.wp P o a w K Q else E := by
  have hw : Region.wanted o (yielded ops a.tmps) = true := by simp [Region.wanted, hg]
  rw [if_pos hw]
  obtain ⟨v', w', hrun, r1, r2, r3⟩ := run_append_at (P := P) w base t o.type e i z size bytes h1 h2 h3 h4 h5 h6 h7 v n xs hown ad m c news hl hnews h1c h63 hbytes hbase
  have r0 := r1
  rcases r0.2 with ⟨_, h0⟩ | ⟨g, cap, _, rfl, _⟩
  · omega
  unfold Oper.wp
  simp [execOp, hop, resolve, invoke, builtin, hs, hx, hrun, Result.andThen]
  exact hK g cap w' r1 r2 (by
    rcases r3 with h | ⟨k, h, hk⟩
    · exact .inl h
    · cases h; exact .inr hk)
end

/-- An empty slice that was written out. -/
theorem ownsRow_empty (w : World) (e : TypeId) (sz : Nat) : (w.alloc (.cells #[] e)).ownsRow w.heap.size e sz (.slice (some ⟨w.heap.size, 0, none⟩) 0 0) 0 [] :=
  ⟨by simp, .inr ⟨w.heap.size, 0, #[], rfl, Nat.le_refl _, heap_alloc_new w _, Nat.le_refl _, by unfold maxLen; omega, by simp, by simp⟩⟩

/-- What isn't of F stands where F is changed, and is not of what F is then. -/
theorem cell_step {F F' : Nat → Prop} {w w' : World} {p : Addr} {v : Value} (s : Step F F' w w') (hc : w.cell? p = some v) (hn : ¬ F p.block) : w'.cell? p = some v ∧ ¬ F' p.block := by
  have hl := World.block_lt_of_cell? w p hc
  refine ⟨(World.cell?_of_block (s.only.block p.block hl hn)).trans hc, fun h => ?_⟩
  rcases s.foot _ h with h1 | h1
  · exact hn h1
  · omega

/-- A row of one's own hangs on its block alone. -/
theorem ownsRow_keep {base : Nat} {e : TypeId} {sz : Nat} {w w' : World} {v : Value} {n : Nat} {xs : List Value} (h : w.ownsRow base e sz v n xs) (hk : ∀ k, v.ownBlock = some k → w'.heap[k]? = w.heap[k]?) : w'.ownsRow base e sz v n xs := by
  refine ⟨h.1, ?_⟩
  rcases h.2 with hn | ⟨g, cap, cur, rfl, h4, h5, rest⟩
  · exact .inl hn
  · exact .inr ⟨g, cap, cur, rfl, h4, (hk g rfl).trans h5, rest⟩
/-- .. which is no map's, and of no struct. -/
theorem ownsRow_type {base : Nat} {e : TypeId} {sz : Nat} {w : World} {v : Value} {n : Nat} {xs : List Value} (h : w.ownsRow base e sz v n xs) {k : Nat} (hk : v.ownBlock = some k) : ∃ cs, w.heap[k]? = some (.cells cs e (0, 0)) := by
  rcases h.2 with ⟨rfl, _⟩ | ⟨g, cap, cur, rfl, _, h5, _⟩
  · simp [Value.ownBlock] at hk
  · simp only [Value.ownBlock, Option.some.injEq] at hk
    subst hk
    exact ⟨cur, h5⟩

/-- A call of a Go function, by its contract, as one step of a region that draws its order. -/
theorem step_call {P : Program} {ops : Array Oper} {o : Oper} {a : Act} {w : World} {K : Act → World → Prop} {Q : Exit → Act → World → Prop} {E : Prop}
    (hg : o.guard = none) (f : FuncId) (vals : Array Value) (hx : (execOp a.eval o).run P w = .ok (.enter f vals) w) {R : Ending → World → Prop} (hC : Calls P f vals w R)
    (hr : ∀ e w', R e w' → ∃ v, e = .returned v ∧ K (a.put o.dst v) w') : if Region.wanted o (yielded ops a.tmps) = true then Oper.wp P o a w K Q else E := by
  have hw : Region.wanted o (yielded ops a.tmps) = true := by simp [Region.wanted, hg]
  rw [if_pos hw]
  unfold Oper.wp
  rw [hx, Oper.upon_enter]
  refine hC.mono ?_
  intro e w' h
  obtain ⟨v, rfl, hK⟩ := hr e w' h
  exact hK

theorem new_cells (w : World) (l : List Value) (e : TypeId) : ∀ (j : Nat) (u : Value), l[j]? = some u → (w.alloc (.cells l.toArray e)).cell? ((⟨w.heap.size, 0, none⟩ : Addr).add j) = some u := by
  intro j u hj
  have hadd : (⟨w.heap.size, 0, none⟩ : Addr).add j = ⟨w.heap.size, j, none⟩ := by unfold Addr.add; split <;> simp_all
  rw [hadd, cell_of_row _ _ _ _ _ _ (heap_alloc_new w _)]
  simpa using hj

/-- Block b holds just these cells, is of type t, and may be written. -/
def Blk (t : TypeId) (w : World) (b : Nat) (cs : Array Value) : Prop := w.heap[b]? = some (.cells cs t (0, 0))

/-- Block b is a struct (of type t), and one field of it, with the fields pre ahead of it and post behind, is a slice that owns the cells xs, of n elements of type e, sz cells each, in the block r (none: it is nil); all from block base on. -/
def Fld (t e : TypeId) (sz base : Nat) (w : World) (b : Nat) (pre post : List Value) (n : Nat) (xs : List Value) (r : Option Nat) : Prop :=
  base ≤ b ∧ r ≠ some b ∧ ∃ v, Blk t w b ⟨pre ++ v :: post⟩ ∧ w.ownsRow base e sz v n xs ∧ v.ownBlock = r

/-- .. a struct of a slice and a number. -/
abbrev Arn (t e : TypeId) (sz base : Nat) (w : World) (b : Nat) (room : Int) (n : Nat) (xs : List Value) (r : Option Nat) : Prop := Fld t e sz base w b [] [.int .i64 room] n xs r

/-- Only block b, the row r and new blocks were written, and the row is now r', which is r or new. -/
structure Chg (b : Nat) (r r' : Option Nat) (w w' : World) : Prop where
  os : w'.os = w.os
  tape : w'.tape = w.tape
  output : w'.output = w.output
  size : w.heap.size ≤ w'.heap.size
  block : ∀ k, k < w.heap.size → k ≠ b → some k ≠ r → w'.heap[k]? = w.heap[k]?
  row : r' = r ∨ ∃ k, r' = some k ∧ w.heap.size ≤ k

theorem bl_drewN {B : Nat} {a w : World} (h : Below B a w) (k : Nat) : Below B a (w.drewN k) := ⟨h.os, h.tape, h.output, h.size, h.block⟩

section
variable {t : TypeId} {w w' : World} {b : Nat} {cs : Array Value}
theorem Blk.lt (h : Blk t w b cs) : b < w.heap.size := lt_of_block h
theorem Blk.cell (h : Blk t w b cs) (j : Nat) : w.cell? ⟨b, j, none⟩ = cs[j]? := cell_of_row w b j cs t (0, 0) h
theorem Blk.free (h : Blk t w b cs) (j : Nat) : w.frozen? ⟨b, j, none⟩ = false := by unfold Blk at h; simp [World.frozen?, h]
theorem Blk.set (h : Blk t w b cs) (j : Nat) (u : Value) : Blk t (w.setCell ⟨b, j, none⟩ u) b (cs.setIfInBounds j u) := by
  have hl := h.lt
  unfold Blk at h ⊢
  have h' : w.heap[b] = .cells cs t (0, 0) := by simpa [Array.getElem?_eq_getElem hl] using h
  show (w.heap.modify b _)[b]? = _
  rw [Array.getElem?_eq_getElem (by simpa using hl), Array.getElem_modify_self, h']
  rfl
theorem Blk.keep (h : Blk t w b cs) (k : w'.heap[b]? = w.heap[b]?) : Blk t w' b cs := k.trans h
theorem Blk.alloc (h : Blk t w b cs) (o : Obj) : Blk t (w.alloc o) b cs := h.keep (Below.heap_alloc w o b h.lt)
theorem Blk.other (h : Blk t w b cs) {p : Addr} (hp : b ≠ p.block) (u : Value) : Blk t (w.setCell p u) b cs := h.keep (Below.heap_setCell w p u b hp)
theorem Blk.drew (h : Blk t w b cs) : Blk t w.drew b cs := h
theorem Blk.drewN (h : Blk t w b cs) (k : Nat) : Blk t (w.drewN k) b cs := h
theorem Blk.grown (h : Blk t w b cs) {r : Option Nat} (hg : w.grownBy w' r) (hr : some b ≠ r) : Blk t w' b cs := h.keep (hg.block b h.lt hr)
theorem Blk.below (h : Blk t w b cs) {B : Nat} (hg : Below B w w') (hr : b < B) : Blk t w' b cs := h.keep (hg.block b hr)
theorem Blk.chg (h : Blk t w b cs) {b2 : Nat} {r r' : Option Nat} (c : Chg b2 r r' w w') (h1 : b ≠ b2) (h2 : some b ≠ r) : Blk t w' b cs := h.keep (c.block b h.lt h1 h2)
theorem Blk.made (w : World) (t : TypeId) (cs : Array Value) : Blk t (w.alloc (.cells cs t)) w.heap.size cs := heap_alloc_new w _
end

section
variable {t e t2 e2 : TypeId} {sz sz2 base base2 : Nat} {w w' : World} {b b2 : Nat} {room : Int} {pre post pre2 post2 : List Value} {n n2 : Nat} {xs xs2 : List Value} {r r' r2 : Option Nat}

theorem Fld.base_le (h : Fld t e sz base w b pre post n xs r) : base ≤ b := h.1
theorem Fld.lt (h : Fld t e sz base w b pre post n xs r) : b < w.heap.size := by
  obtain ⟨_, _, v, hb, _⟩ := h
  exact hb.lt
theorem Fld.len (h : Fld t e sz base w b pre post n xs r) : xs.length = n * sz := by
  obtain ⟨_, _, v, _, ho, _⟩ := h
  exact ho.1
theorem Fld.row_lt (h : Fld t e sz base w b pre post n xs r) : ∀ k, r = some k → base ≤ k ∧ k < w.heap.size := by
  obtain ⟨_, _, v, _, ho, rfl⟩ := h
  exact ho.lt
theorem Fld.row_ne (h : Fld t e sz base w b pre post n xs r) : some b ≠ r := fun e => h.2.1 e.symm
/-- The row's block has another element type than a block of another type. -/
theorem Fld.row_type (h : Fld t e sz base w b pre post n xs r) {cs : Array Value} {k : Nat} (hk : Blk t2 w k cs) (hne : t2 ≠ e) : some k ≠ r := by
  obtain ⟨_, _, v, _, ho, rfl⟩ := h
  rcases ho.2 with ⟨rfl, _⟩ | ⟨g, cap, cur, rfl, _, hg, _⟩
  · simp [Value.ownBlock]
  · simp only [Value.ownBlock]
    intro e1
    cases e1
    unfold Blk at hk
    rw [hg] at hk
    simp at hk
    exact hne hk.2.symm

/-- What the walk is told of it. -/
theorem Fld.open (h : Fld t e sz base w b pre post n xs r) : ∃ ao cap, Blk t w b ⟨pre ++ .slice ao n cap :: post⟩ ∧ w.ownsRow base e sz (.slice ao n cap) n xs ∧ (Value.slice ao n cap).ownBlock = r := by
  obtain ⟨_, _, v, hb, ho, hr⟩ := h
  obtain ⟨ao, cap, rfl⟩ : ∃ ao cap, v = .slice ao n cap := by
    rcases ho.2 with ⟨rfl, rfl⟩ | ⟨g, cap, cur, rfl, _⟩
    · exact ⟨none, 0, rfl⟩
    · exact ⟨_, cap, rfl⟩
  exact ⟨ao, cap, hb, ho, hr⟩

theorem Arn.open (h : Arn t e sz base w b room n xs r) : ∃ ao cap, w.cell? ⟨b, 0, none⟩ = some (.slice ao n cap) ∧ w.cell? ⟨b, 1, none⟩ = some (.int .i64 room) ∧ w.frozen? ⟨b, 0, none⟩ = false ∧
    w.ownsRow base e sz (.slice ao n cap) n xs ∧ (Value.slice ao n cap).ownBlock = r := by
  obtain ⟨ao, cap, hb, ho, hr⟩ := Fld.open h
  exact ⟨ao, cap, hb.cell 0, hb.cell 1, hb.free 0, ho, hr⟩

/-- Its elements' cells, where it has one. -/
theorem Fld.elem (h : Fld t e sz base w b pre post n xs r) (hn : 0 < n) : ∃ g cap, Blk t w b ⟨pre ++ .slice (some ⟨g, 0, none⟩) n cap :: post⟩ ∧ ∀ j, j < n * sz → w.cell? ⟨g, j, none⟩ = xs[j]? := by
  obtain ⟨_, _, v, hb, ho, hr⟩ := h
  rcases ho.2 with ⟨rfl, rfl⟩ | ⟨g, cap, cur, rfl, _⟩
  · omega
  · exact ⟨g, cap, hb, fun j hj => ho.cellAt j hj⟩
theorem Arn.elem (h : Arn t e sz base w b room n xs r) (hn : 0 < n) : ∃ g cap, w.cell? ⟨b, 0, none⟩ = some (.slice (some ⟨g, 0, none⟩) n cap) ∧ ∀ j, j < n * sz → w.cell? ⟨g, j, none⟩ = xs[j]? := by
  obtain ⟨g, cap, hb, hc⟩ := Fld.elem h hn
  exact ⟨g, cap, hb.cell 0, hc⟩

theorem Fld.keep (h : Fld t e sz base w b pre post n xs r) (hb : w'.heap[b]? = w.heap[b]?) (hr : ∀ k, r = some k → w'.heap[k]? = w.heap[k]?) : Fld t e sz base w' b pre post n xs r := by
  obtain ⟨h1, h2, v, h3, ho, rfl⟩ := h
  refine ⟨h1, h2, v, h3.keep hb, ⟨ho.1, ?_⟩, rfl⟩
  rcases ho.2 with hn | ⟨g, cap, cur, rfl, h4, h5, rest⟩
  · exact .inl hn
  · exact .inr ⟨g, cap, cur, rfl, h4, (hr g rfl).trans h5, rest⟩
theorem Fld.alloc (h : Fld t e sz base w b pre post n xs r) (o : Obj) : Fld t e sz base (w.alloc o) b pre post n xs r :=
  h.keep (Below.heap_alloc w o b h.lt) (fun k hk => Below.heap_alloc w o k (h.row_lt k hk).2)
theorem Fld.drew (h : Fld t e sz base w b pre post n xs r) : Fld t e sz base w.drew b pre post n xs r := h
theorem Fld.drewN (h : Fld t e sz base w b pre post n xs r) (k : Nat) : Fld t e sz base (w.drewN k) b pre post n xs r := h
theorem Fld.grown (h : Fld t e sz base w b pre post n xs r) (g : w.grownBy w' none) : Fld t e sz base w' b pre post n xs r :=
  h.keep (g.block b h.lt (by simp)) (fun k hk => g.block k (h.row_lt k hk).2 (by simp))
theorem Fld.grownRow (h : Fld t e sz base w b pre post n xs r) (g : w.grownBy w' r2) (h1 : some b ≠ r2) (h2 : r = none ∨ r ≠ r2) : Fld t e sz base w' b pre post n xs r :=
  h.keep (g.block b h.lt h1) (fun k hk => g.block k (h.row_lt k hk).2 (by
    rcases h2 with h2 | h2
    · rw [h2] at hk; cases hk
    · rw [← hk]; exact h2))
theorem Fld.other (h : Fld t e sz base w b pre post n xs r) {p : Addr} (hp : b ≠ p.block) (hr : r ≠ some p.block) (u : Value) : Fld t e sz base (w.setCell p u) b pre post n xs r :=
  h.keep (Below.heap_setCell w p u b hp) (fun k hk => Below.heap_setCell w p u k (fun e => hr (by rw [hk, e])))

/-- A new one. -/
theorem Fld.made (w : World) (t e : TypeId) (sz : Nat) (hb : base ≤ w.heap.size) (pre post : List Value) : Fld t e sz base (w.alloc (.cells ⟨pre ++ .slice none 0 0 :: post⟩ t)) w.heap.size pre post 0 [] none :=
  ⟨hb, by simp, .slice none 0 0, heap_alloc_new w _, World.ownsRow_nil _ _ _ _, rfl⟩
theorem Arn.made (w : World) (t e : TypeId) (sz : Nat) (hb : base ≤ w.heap.size) (room : Int) : Arn t e sz base (w.alloc (.cells #[.slice none 0 0, .int .i64 room] t)) w.heap.size room 0 [] none :=
  Fld.made w t e sz hb [] [.int .i64 room]

/-- A field beside the slice is stored. -/
theorem Fld.setPost (h : Fld t e sz base w b pre post n xs r) (j : Nat) (u : Value) : Fld t e sz base (w.setCell ⟨b, pre.length + 1 + j, none⟩ u) b pre (post.set j u) n xs r := by
  obtain ⟨h1, h2, v, h3, ho, rfl⟩ := h
  refine ⟨h1, h2, v, ?_, ownsRow_setCell_other ho h2 _, rfl⟩
  have := h3.set (pre.length + 1 + j) u
  simpa [List.set_append, List.set_cons_succ, show ¬ pre.length + 1 + j < pre.length by omega, show pre.length + 1 + j - pre.length = j + 1 by omega] using this

theorem Chg.below {B : Nat} (h : Chg b r r' w w') {w0 : World} (k : Below B w0 w) (hs : B ≤ w.heap.size) (hb : B ≤ b) (hr : ∀ k, r = some k → B ≤ k) : Below B w0 w' :=
  k.trans ⟨h.os, h.tape, h.output, h.size, fun i hi => h.block i (by omega) (by omega) (fun e => by have := hr i e.symm; omega)⟩

/-- Behind a put into one of its own, where base is below all. -/
theorem Chg.bl {B : Nat} (h : Chg b r r' w w') {w0 : World} (k : Below B w0 w) (hs : B ≤ w.heap.size) (a : Fld t e sz B w b pre post n xs r) : Below B w0 w' :=
  h.below k hs a.base_le (fun i hi => (a.row_lt i hi).1)

/-- Another block, neither the struct nor the row, is as it was. -/
theorem Chg.cell (h : Chg b r r' w w') {a : Addr} {v : Value} (hc : w.cell? a = some v) (hb : a.block ≠ b) (hr : some a.block ≠ r) : w'.cell? a = some v :=
  (World.cell?_of_block (h.block a.block (World.block_lt_of_cell? w a hc) hb hr)).trans hc

/-- Two of them that have nothing to do with each other. -/
def Apart (b : Nat) (r : Option Nat) (b2 : Nat) (r2 : Option Nat) : Prop := b ≠ b2 ∧ r ≠ some b2 ∧ r2 ≠ some b ∧ (r = none ∨ r ≠ r2)
theorem Apart.symm (h : Apart b r b2 r2) : Apart b2 r2 b r := ⟨h.1.symm, h.2.2.1, h.2.1, by
  cases r2 with
  | none => exact .inl rfl
  | some k => exact .inr (fun e => by rcases h.2.2.2 with h' | h'; · rw [h'] at e; cases e
                                      · exact h' e.symm)⟩
theorem Apart.step (h : Apart b r b2 r2) (c : Chg b r r' w w') (a2 : Fld t2 e2 sz2 base2 w b2 pre2 post2 n2 xs2 r2) : Apart b r' b2 r2 := by
  rcases c.row with rfl | ⟨k, rfl, hk⟩
  · exact h
  · refine ⟨h.1, fun e => ?_, h.2.2.1, .inr fun e => ?_⟩
    · have := a2.lt; cases e; omega
    · have := (a2.row_lt k e.symm).2; omega
theorem Fld.chg (a2 : Fld t2 e2 sz2 base2 w b2 pre2 post2 n2 xs2 r2) (c : Chg b r r' w w') (h : Apart b r b2 r2) : Fld t2 e2 sz2 base2 w' b2 pre2 post2 n2 xs2 r2 :=
  a2.keep (c.block b2 a2.lt h.1.symm h.2.1.symm) (fun k hk => c.block k (a2.row_lt k hk).2 (fun e => h.2.2.1 (by rw [hk, e])) (fun e => by
    subst hk
    rcases h.2.2.2 with h' | h'
    · rw [h'] at e; cases e
    · exact h' e.symm))

/-- The put, told once: the append has grown the row, and then the slice was stored. -/
theorem Fld.put (h : Fld t e sz base w b pre post n xs r) {w1 : World} {g' c' n' : Nat} {xs' : List Value} (ho : w1.ownsRow base e sz (.slice (some ⟨g', 0, none⟩) n' c') n' xs') (g : w.grownBy w1 r)
    (hv : some g' = r ∨ w.heap.size ≤ g') : Fld t e sz base (w1.setCell ⟨b, pre.length, none⟩ (.slice (some ⟨g', 0, none⟩) n' c')) b pre post n' xs' (some g') ∧ Chg b r (some g') w (w1.setCell ⟨b, pre.length, none⟩ (.slice (some ⟨g', 0, none⟩) n' c')) := by
  have hb0 := h.lt
  obtain ⟨h1, h2, v, h3, _, hr⟩ := h
  have hb1 : Blk t w1 b ⟨pre ++ v :: post⟩ := h3.grown g (fun e => h2 e.symm)
  have hne : (some g') ≠ some b := by
    rcases hv with e | hk
    · rw [e]; exact h2
    · intro e2; cases e2; omega
  refine ⟨⟨h1, hne, _, ?_, ownsRow_setCell_other ho (by simpa [Value.ownBlock] using hne) _, rfl⟩, ⟨g.os, g.tape, g.output, by simpa [World.setCell] using g.size, fun k hk hkb hkr => ?_, ?_⟩⟩
  · have := hb1.set pre.length (.slice (some ⟨g', 0, none⟩) n' c')
    simpa [List.set_append] using this
  · exact (Below.heap_setCell _ _ _ _ hkb).trans (g.block k hk hkr)
  · rcases hv with e | hk
    · exact .inl e
    · exact .inr ⟨g', rfl, hk⟩
theorem Arn.put (h : Arn t e sz base w b room n xs r) {w1 : World} {g' c' n' : Nat} {xs' : List Value} (ho : w1.ownsRow base e sz (.slice (some ⟨g', 0, none⟩) n' c') n' xs') (g : w.grownBy w1 r)
    (hv : some g' = r ∨ w.heap.size ≤ g') : Arn t e sz base (w1.setCell ⟨b, 0, none⟩ (.slice (some ⟨g', 0, none⟩) n' c')) b room n' xs' (some g') ∧ Chg b r (some g') w (w1.setCell ⟨b, 0, none⟩ (.slice (some ⟨g', 0, none⟩) n' c')) :=
  Fld.put h ho g hv

/-- Behind the append, ahead of the store. -/
theorem Fld.mid (h : Fld t e sz base w b pre post n xs r) {v : Value} {o : Obj} {w1 : World} {j : Nat} (c : w.cell? ⟨b, j, none⟩ = some v) (g : (w.alloc o).grownBy w1 r) : w1.cell? ⟨b, j, none⟩ = some v ∧ w1.frozen? ⟨b, j, none⟩ = false := by
  have e1 : w1.heap[b]? = w.heap[b]? := (g.block b (by have := h.lt; simp; omega) (fun e => h.2.1 e.symm)).trans (Below.heap_alloc w o b h.lt)
  obtain ⟨_, _, v0, hb, _⟩ := h
  exact ⟨(World.cell?_of_block (w := w) e1).trans c, Blk.free (hb.keep e1) j⟩

theorem Chg.after (c : Chg b r r' w w') {w0 : World} (g : w0.grownBy w none) : Chg b r r' w0 w' :=
  ⟨c.os.trans g.os, c.tape.trans g.tape, c.output.trans g.output, Nat.le_trans g.size c.size, fun k hk hb hr => (c.block k (Nat.lt_of_lt_of_le hk g.size) hb hr).trans (g.block k hk (by simp)), by
    rcases c.row with h | ⟨k, h, hk⟩
    · exact .inl h
    · exact .inr ⟨k, h, Nat.le_trans g.size hk⟩⟩
theorem Chg.drewN (c : Chg b r r' w w') (k : Nat) : Chg b r r' w (w'.drewN k) := ⟨c.os, c.tape, c.output, c.size, c.block, c.row⟩
theorem Chg.drew (c : Chg b r r' w w') : Chg b r r' w w'.drew := ⟨c.os, c.tape, c.output, c.size, c.block, c.row⟩
end

/-- The first n numbers of a list, as a row of cells. -/
def vals (z : Nat → Int) (n : Nat) : List Value := (List.range n).map fun i => .int .i64 (z i)
theorem vals_succ (z : Nat → Int) (n : Nat) : vals z (n + 1) = vals z n ++ [.int .i64 (z n)] := by simp [vals, List.range_succ]
theorem vals_get (z : Nat → Int) (n i : Nat) (h : i < n) : (vals z n)[i]? = some (.int .i64 (z i)) := by simp [vals, h]
theorem vals_push (z : Nat → Int) (n : Nat) (x : Int) : ∃ y, vals y (n + 1) = vals z n ++ [.int .i64 x] ∧ vals y n = vals z n ∧ y n = x := by
  have h : vals (fun j => if j = n then x else z j) n = vals z n := by
    apply List.map_congr_left
    intro i hi
    have : i < n := by simpa using hi
    simp [show i ≠ n by omega]
  exact ⟨fun j => if j = n then x else z j, by rw [vals_succ, h]; simp, h, by simp⟩

/-- The first n pairs of a list, as a row of cells. -/
def pairs (z : Nat → Nat → Int) (n : Nat) : List Value := (List.range n).flatMap fun i => [.int .i64 (z i 0), .int .i64 (z i 1)]
theorem pairs_succ (z : Nat → Nat → Int) (n : Nat) : pairs z (n + 1) = pairs z n ++ [.int .i64 (z n 0), .int .i64 (z n 1)] := by simp [pairs, List.range_succ]
theorem pairs_length (z : Nat → Nat → Int) (n : Nat) : (pairs z n).length = n * 2 := by
  induction n with
  | zero => rfl
  | succ n ih => rw [pairs_succ, List.length_append, ih]; simp; omega
theorem pairs_get (z : Nat → Nat → Int) (n i : Nat) (h : i < n) : (pairs z n)[i * 2]? = some (.int .i64 (z i 0)) ∧ (pairs z n)[i * 2 + 1]? = some (.int .i64 (z i 1)) := by
  induction n with
  | zero => omega
  | succ n ih =>
    have hl := pairs_length z n
    rw [pairs_succ]
    by_cases hi : i < n
    · rw [List.getElem?_append_left (by omega), List.getElem?_append_left (by omega)]
      exact ih hi
    · obtain rfl : i = n := by omega
      rw [List.getElem?_append_right (by omega), List.getElem?_append_right (by omega), hl]
      simp
end Go.Proofs.Ytkidkhjpijjphaa.base

/- A map keyed by int, told by a function: plain facts on memory, of no program. The elements are held as they are, whatever they lead to. -/
namespace Go.Proofs.Ytkidkhjpijjphaa.base
open Go Go.RowKit Go.Maps

/-- An element reads as itself. -/
def heldR (v : Value) : Option (DataW Value × List MemPlace) := some (.held v, [])

/-- Block b is a map of n entries from numbers (keys of type k, of kind int) to what f tells. -/
def MapF (P : Program) (k : TypeId) (w : World) (b n : Nat) (f : Int → Option Value) : Prop :=
  ∃ D, w.ownsMap P k heldR b n D ∧ Maps.size D = n ∧ ∀ j, Maps.has D (.int .i64 j) = (f j).isSome ∧ ∀ v z, f j = some v → D.atKey (.int .i64 j) z = .held v

section
variable {P : Program} {k e t : TypeId} {w w' : World} {b n : Nat} {f : Int → Option Value}

theorem MapF.lt (h : MapF P k w b n f) : b < w.heap.size := by
  obtain ⟨D, h, _⟩ := h
  exact h.lt
theorem MapF.keep (h : MapF P k w b n f) (hb : w'.heap[b]? = w.heap[b]?) : MapF P k w' b n f := by
  obtain ⟨D, ⟨es, c, h1, h2⟩, h3⟩ := h
  exact ⟨D, ⟨es, c, hb.trans h1, h2⟩, h3⟩
theorem MapF.not_cells (h : MapF P k w b n f) {cs : Array Value} {ty : TypeId} {fr : Nat × Nat} : w.heap[b]? ≠ some (.cells cs ty fr) := by
  obtain ⟨D, ⟨es, c, h1, h2⟩, h3⟩ := h
  rw [h1]
  simp
theorem MapF.made (w : World) (P : Program) (k : TypeId) : MapF P k (w.alloc (.map #[] 0)) w.heap.size 0 (fun _ => none) :=
  ⟨_, World.ownsMap_made w P k heldR, rfl, fun j => ⟨rfl, by simp⟩⟩

/-- 'v, ok := m[j]', j there. -/
theorem MapF.hit (h : MapF P k w b n f) (hk : P.underlying k = some (.int .i64)) (ht : P.underlying t = some (.map k e)) {z : Value} (hz : (zeroValue e).run P w = .ok z w) {j : Int} (hj : (Lit.int .i64 j).wf = true) {v : Value} (hf : f j = some v) :
    (Instr.lookup t (.map (some b)) (.int .i64 j) true).run P w = .ok (.tuple #[v, .bool true]) w := by
  obtain ⟨D, h, _, hD⟩ := h
  obtain ⟨u, ps, hr, hu⟩ := h.look_ok (int_keyed hk) ht hz (zd := .held z) rfl (keyOf_int_mk hk hj)
  rw [hr, (hD j).1, hf]
  rw [(hD j).2 v _ hf] at hu
  simp only [heldR, Option.some.injEq, Prod.mk.injEq, DataW.held.injEq] at hu
  rw [hu.1]
  rfl

/-- .. j not there. -/
theorem MapF.miss (h : MapF P k w b n f) (hk : P.underlying k = some (.int .i64)) (ht : P.underlying t = some (.map k e)) {z : Value} (hz : (zeroValue e).run P w = .ok z w) {j : Int} (hj : (Lit.int .i64 j).wf = true) (hf : f j = none) :
    (Instr.lookup t (.map (some b)) (.int .i64 j) true).run P w = .ok (.tuple #[z, .bool false]) w := by
  obtain ⟨D, h, _, hD⟩ := h
  obtain ⟨u, ps, hr, hu⟩ := h.look_ok (int_keyed hk) ht hz (zd := .held z) rfl (keyOf_int_mk hk hj)
  have h0 : Maps.has D (.int .i64 j) = false := by rw [(hD j).1, hf]; rfl
  rw [hr, h0]
  rw [atKey_of_not_has h0] at hu
  simp only [heldR, Option.some.injEq, Prod.mk.injEq, DataW.held.injEq] at hu
  rw [hu.1]

/-- 'm[j]' (without 'ok'). -/
theorem MapF.get (h : MapF P k w b n f) (hk : P.underlying k = some (.int .i64)) (ht : P.underlying t = some (.map k e)) {z : Value} (hz : (zeroValue e).run P w = .ok z w) {j : Int} (hj : (Lit.int .i64 j).wf = true) :
    (Instr.lookup t (.map (some b)) (.int .i64 j) false).run P w = .ok ((f j).getD z) w := by
  obtain ⟨D, h, _, hD⟩ := h
  obtain ⟨u, ps, hr, hu⟩ := h.lookup (int_keyed hk) ht hz (zd := .held z) rfl (keyOf_int_mk hk hj)
  rw [hr]
  cases hf : f j with
  | none =>
    have h0 : Maps.has D (.int .i64 j) = false := by rw [(hD j).1, hf]; rfl
    rw [atKey_of_not_has h0] at hu
    simp only [heldR, Option.some.injEq, Prod.mk.injEq, DataW.held.injEq] at hu
    rw [hu.1]
    rfl
  | some v =>
    rw [(hD j).2 v _ hf] at hu
    simp only [heldR, Option.some.injEq, Prod.mk.injEq, DataW.held.injEq] at hu
    rw [hu.1]
    rfl

/-- 'm[j] = v', whether j is there or not. -/
theorem MapF.set (h : MapF P k w b n f) (hk : P.underlying k = some (.int .i64)) (ht : P.underlying t = some (.map k e)) (hn : n < maxLen) {j : Int} (hj : (Lit.int .i64 j).wf = true) (v : Value) :
    ∃ w' n', n' ≤ n + 1 ∧ (Instr.mapUpdate t (.map (some b)) (.int .i64 j) v).run P w = .ok () w' ∧ MapF P k w' b n' (fun i => if i = j then some v else f i) ∧ w.grownBy w' (some b) := by
  obtain ⟨D, h, hs, hD⟩ := h
  have K := int_keyed hk
  have hkey := keyOf_int_mk hk hj
  obtain ⟨w', hr, ho, hg⟩ := h.update K ht hn hkey (val := v) (d := .held v) (ps := []) rfl
  have hs2 := size_put (d := .held v) (h.tidy K) (k := .int .i64 j)
  have hle : Maps.size (D.put (.int .i64 j) (.held v)) ≤ n + 1 := by rw [hs2, hs]; split <;> omega
  obtain ⟨es, c, hb, hfit, hsz, hDD⟩ := ho
  have hsz2 : es.size ≤ Maps.size (D.put (.int .i64 j) (.held v)) := by rw [hDD]; simp [Maps.size, length_sorted]
  refine ⟨w', _, hle, hr, ⟨_, ⟨es, c, hb, hfit, hsz2, hDD⟩, rfl, fun i => ?_⟩, hg⟩
  by_cases hi : i = j
  · subst hi
    rw [has_put_same h.isMap (K.key hkey)]
    refine ⟨by simp, fun u z hu => ?_⟩
    simp at hu
    subst hu
    exact atKey_put_same h.isMap (K.key hkey) _ _
  · have hne : (Lit.int .i64 i) ≠ .int .i64 j := fun e => hi (by cases e; rfl)
    rw [has_put_other hne]
    refine ⟨by simpa [hi] using (hD i).1, fun u z hu => ?_⟩
    simp [hi] at hu
    rw [atKey_put_other hne]
    exact (hD i).2 u z hu

theorem MapF.len (h : MapF P k w b n f) (ht : P.underlying t = some (.map k e)) (ty : TypeId) : (Builtin.len_ #[t] ty #[.map (some b)]).run P w = .ok (.int .i64 n) w := by
  obtain ⟨D, h, hs, _⟩ := h
  rw [h.len ht ty, hs]

/-- 'm[j] = v', j not there till now. -/
theorem MapF.put (h : MapF P k w b n f) (hk : P.underlying k = some (.int .i64)) (ht : P.underlying t = some (.map k e)) (hn : n < maxLen) {j : Int} (hj : (Lit.int .i64 j).wf = true) (hf : f j = none) (v : Value) :
    ∃ w', (Instr.mapUpdate t (.map (some b)) (.int .i64 j) v).run P w = .ok () w' ∧ MapF P k w' b (n + 1) (fun i => if i = j then some v else f i) ∧ w.grownBy w' (some b) := by
  obtain ⟨D, h, hs, hD⟩ := h
  have K := int_keyed hk
  have hkey := keyOf_int_mk hk hj
  obtain ⟨w', hr, ho, hg⟩ := h.update K ht hn hkey (val := v) (d := .held v) (ps := []) rfl
  have h0 : Maps.has D (.int .i64 j) = false := by rw [(hD j).1, hf]; rfl
  refine ⟨w', hr, ⟨_, ho, ?_, fun i => ?_⟩, hg⟩
  · rw [size_put (h.tidy K), h0, hs]; rfl
  · by_cases hi : i = j
    · subst hi
      rw [has_put_same h.isMap (K.key hkey)]
      refine ⟨by simp, fun u z hu => ?_⟩
      simp at hu
      subst hu
      exact atKey_put_same h.isMap (K.key hkey) _ _
    · have hne : (Lit.int .i64 i) ≠ .int .i64 j := fun e => hi (by cases e; rfl)
      rw [has_put_other hne]
      refine ⟨by simpa [hi] using (hD i).1, fun u z hu => ?_⟩
      simp [hi] at hu
      rw [atKey_put_other hne]
      exact (hD i).2 u z hu
end

/-- The store at the operation, for a walk. -/
theorem wpList_put_mapF {P : Program} (w : World) {ops : Array Oper} {rest : List Oper} {o : Oper} {a : Act} {Q : Exit → Act → World → Prop}
    (hg : o.guard = none) (m x v : Operand) (t : TypeId) (hop : o.op = Op.mapUpdate t m x v)
    (k e : TypeId) (hk : P.underlying k = some (.int .i64)) (ht : P.underlying t = some (.map k e)) (b n : Nat) (f : Int → Option Value)
    (hm : a.eval m = .map (some b)) (h : MapF P k w b n f) (hn : n < maxLen) (j : Int) (hx : a.eval x = .int .i64 j) (hj : (Lit.int .i64 j).wf = true) (hf : f j = none) (val : Value) (hv : a.eval v = val)
    (hK : ∀ w', MapF P k w' b (n + 1) (fun i => if i = j then some val else f i) → w.grownBy w' (some b) → wpList P ops Q rest (a.put o.dst undef) w') :
    wpList P ops Q (o :: rest) a w := by
  refine wpList_plain hg fun K' hK' => ?_
  obtain ⟨w', hrun, r1, r2⟩ := h.put hk ht hn hj hf val
  unfold Oper.wp
  simp [execOp, hop, hm, hx, hv, hrun, Result.andThen]
  exact hK' _ _ (hK w' r1 r2)
/-- The look-up at the operation, for a walk: the number is there. -/
theorem wpList_hit_mapF {P : Program} (w : World) {ops : Array Oper} {rest : List Oper} {o : Oper} {a : Act} {Q : Exit → Act → World → Prop}
    (hg : o.guard = none) (m x : Operand) (t : TypeId) (hop : o.op = Op.lookup t m x true)
    (k e : TypeId) (hk : P.underlying k = some (.int .i64)) (ht : P.underlying t = some (.map k e)) (z : Value) (hz : (zeroValue e).run P w = .ok z w) (b n : Nat) (f : Int → Option Value)
    (hm : a.eval m = .map (some b)) (h : MapF P k w b n f) (j : Int) (hx : a.eval x = .int .i64 j) (hj : (Lit.int .i64 j).wf = true) (v : Value) (hf : f j = some v)
    (hK : wpList P ops Q rest (a.put o.dst (.tuple #[v, .bool true])) w) :
    wpList P ops Q (o :: rest) a w := by
  refine wpList_plain hg fun K' hK' => ?_
  have hrun := h.hit hk ht hz hj hf
  unfold Oper.wp
  simp [execOp, hop, hm, hx, hrun, Result.andThen]
  exact hK' _ _ hK

/-- .. the number is not there. -/
theorem wpList_miss_mapF {P : Program} (w : World) {ops : Array Oper} {rest : List Oper} {o : Oper} {a : Act} {Q : Exit → Act → World → Prop}
    (hg : o.guard = none) (m x : Operand) (t : TypeId) (hop : o.op = Op.lookup t m x true)
    (k e : TypeId) (hk : P.underlying k = some (.int .i64)) (ht : P.underlying t = some (.map k e)) (z : Value) (hz : (zeroValue e).run P w = .ok z w) (b n : Nat) (f : Int → Option Value)
    (hm : a.eval m = .map (some b)) (h : MapF P k w b n f) (j : Int) (hx : a.eval x = .int .i64 j) (hj : (Lit.int .i64 j).wf = true) (hf : f j = none)
    (hK : wpList P ops Q rest (a.put o.dst (.tuple #[z, .bool false])) w) :
    wpList P ops Q (o :: rest) a w := by
  refine wpList_plain hg fun K' hK' => ?_
  have hrun := h.miss hk ht hz hj hf
  unfold Oper.wp
  simp [execOp, hop, hm, hx, hrun, Result.andThen]
  exact hK' _ _ hK
end Go.Proofs.Ytkidkhjpijjphaa.base

/- A map whose keys are of whatever type, told by a function: plain facts on memory, of no program; and the operations on it, for a walk and for a walk inside a fence. The elements are held as they are. -/
namespace Go.Proofs.Ytkidkhjpijjphaa.base
open Go Go.RowKit Go.Maps

/-- Block b is a map of n entries at most, from the keys kv x to what f tells. -/
def MapG (P : Program) (k : TypeId) {κ : Type} (kv : κ → Value) (w : World) (b n : Nat) (f : κ → Option Value) : Prop :=
  ∃ D, w.ownsMap P k heldR b n D ∧ ∀ x kl, keyOf P k (kv x) = some kl → Maps.has D kl = (f x).isSome ∧ ∀ v z, f x = some v → D.atKey kl z = .held v

section
variable {P : Program} {k e t : TypeId} {κ : Type} {kv : κ → Value} {w w' : World} {b n m : Nat} {f g : κ → Option Value}

theorem MapG.lt (h : MapG P k kv w b n f) : b < w.heap.size := by
  obtain ⟨D, h, _⟩ := h
  exact h.lt
theorem MapG.keep (h : MapG P k kv w b n f) (hb : w'.heap[b]? = w.heap[b]?) : MapG P k kv w' b n f := by
  obtain ⟨D, ⟨es, c, h1, h2⟩, h3⟩ := h
  exact ⟨D, ⟨es, c, hb.trans h1, h2⟩, h3⟩
theorem MapG.grown (h : MapG P k kv w b n f) {r : Option Nat} (hg : w.grownBy w' r) (hr : some b ≠ r) : MapG P k kv w' b n f := h.keep (hg.block b h.lt hr)
theorem MapG.only {S : Nat → Prop} (h : MapG P k kv w b n f) (hg : Only S w w') (hr : ¬ S b) : MapG P k kv w' b n f := h.keep (hg.block b h.lt hr)
theorem MapG.not_cells (h : MapG P k kv w b n f) {cs : Array Value} {ty : TypeId} {fr : Nat × Nat} : w.heap[b]? ≠ some (.cells cs ty fr) := by
  obtain ⟨D, ⟨es, c, h1, h2⟩, h3⟩ := h
  rw [h1]
  simp
theorem MapG.ne_blk (h : MapG P k kv w b n f) {c : Nat} {ty : TypeId} {cs : Array Value} (g : Blk ty w c cs) : b ≠ c := fun e => h.not_cells (by rw [e]; exact g)
theorem MapG.made (w : World) (P : Program) (k : TypeId) (kv : κ → Value) : MapG P k kv (w.alloc (.map #[] 0)) w.heap.size 0 (fun _ => none) :=
  ⟨_, World.ownsMap_made w P k heldR, fun x kl _ => ⟨rfl, by simp⟩⟩
theorem MapG.more (h : MapG P k kv w b n f) (hn : n ≤ m) : MapG P k kv w b m f := by
  obtain ⟨D, h1, h2⟩ := h
  exact ⟨D, h1.mono hn, h2⟩
theorem MapG.congr (h : MapG P k kv w b n f) (he : ∀ x kl, keyOf P k (kv x) = some kl → g x = f x) : MapG P k kv w b n g := by
  obtain ⟨D, h1, h2⟩ := h
  refine ⟨D, h1, fun x kl hx => ?_⟩
  rw [he x kl hx]
  exact h2 x kl hx

theorem MapG.look (h : MapG P k kv w b n f) (K : Keyed P k) (ht : P.underlying t = some (.map k e)) {z : Value} (hz : (zeroValue e).run P w = .ok z w) {x : κ} {kl : Lit} (hx : keyOf P k (kv x) = some kl) :
    (Instr.lookup t (.map (some b)) (kv x) true).run P w = .ok (.tuple #[(f x).getD z, .bool (f x).isSome]) w := by
  obtain ⟨D, h, hD⟩ := h
  obtain ⟨u, ps, hr, hu⟩ := h.look_ok K ht hz (zd := .held z) rfl hx
  rw [hr, (hD x kl hx).1]
  cases hf : f x with
  | none =>
    have h0 : Maps.has D kl = false := by rw [(hD x kl hx).1, hf]; rfl
    rw [atKey_of_not_has h0] at hu
    simp only [heldR, Option.some.injEq, Prod.mk.injEq, DataW.held.injEq] at hu
    rw [hu.1]
    rfl
  | some v =>
    rw [(hD x kl hx).2 v _ hf] at hu
    simp only [heldR, Option.some.injEq, Prod.mk.injEq, DataW.held.injEq] at hu
    rw [hu.1]
    rfl
theorem MapG.get (h : MapG P k kv w b n f) (K : Keyed P k) (ht : P.underlying t = some (.map k e)) {z : Value} (hz : (zeroValue e).run P w = .ok z w) {x : κ} {kl : Lit} (hx : keyOf P k (kv x) = some kl) :
    (Instr.lookup t (.map (some b)) (kv x) false).run P w = .ok ((f x).getD z) w := by
  obtain ⟨D, h, hD⟩ := h
  obtain ⟨u, ps, hr, hu⟩ := h.lookup K ht hz (zd := .held z) rfl hx
  rw [hr]
  cases hf : f x with
  | none =>
    have h0 : Maps.has D kl = false := by rw [(hD x kl hx).1, hf]; rfl
    rw [atKey_of_not_has h0] at hu
    simp only [heldR, Option.some.injEq, Prod.mk.injEq, DataW.held.injEq] at hu
    rw [hu.1]
    rfl
  | some v =>
    rw [(hD x kl hx).2 v _ hf] at hu
    simp only [heldR, Option.some.injEq, Prod.mk.injEq, DataW.held.injEq] at hu
    rw [hu.1]
    rfl

open Classical in
/-- f, but v at x. -/
noncomputable def upd (f : κ → Option Value) (x : κ) (v : Option Value) : κ → Option Value := fun y => if y = x then v else f y
theorem upd_same (f : κ → Option Value) (x : κ) (v : Option Value) : upd f x v x = v := by simp [upd]
theorem upd_other (f : κ → Option Value) {x y : κ} (v : Option Value) (h : y ≠ x) : upd f x v y = f y := by simp [upd, h]

theorem MapG.set (h : MapG P k kv w b n f) (K : Keyed P k) (hinj : ∀ x y, kv x = kv y → x = y) (ht : P.underlying t = some (.map k e)) (hn : n < maxLen) {x : κ} {kl : Lit} (hx : keyOf P k (kv x) = some kl) (v : Value) :
    ∃ w', (Instr.mapUpdate t (.map (some b)) (kv x) v).run P w = .ok () w' ∧ MapG P k kv w' b (n + 1) (upd f x (some v)) ∧ w.grownBy w' (some b) := by
  obtain ⟨D, h, hD⟩ := h
  obtain ⟨w', hr, ho, hg⟩ := h.update K ht hn hx (val := v) (d := .held v) (ps := []) rfl
  refine ⟨w', hr, ⟨_, ho, fun y yl hy => ?_⟩, hg⟩
  by_cases hi : y = x
  · subst hi
    rw [hx] at hy
    cases hy
    rw [upd_same, has_put_same h.isMap (K.key hx)]
    refine ⟨by simp, fun u z hu => ?_⟩
    cases hu
    exact atKey_put_same h.isMap (K.key hx) _ _
  · have hne : yl ≠ kl := fun e => hi (hinj _ _ (K.inj (e ▸ hy) hx))
    rw [upd_other f (some v) hi, has_put_other hne]
    refine ⟨(hD y yl hy).1, fun u z hu => ?_⟩
    rw [atKey_put_other hne]
    exact (hD y yl hy).2 u z hu
theorem MapG.del (h : MapG P k kv w b n f) (K : Keyed P k) (hinj : ∀ x y, kv x = kv y → x = y) (ht : P.underlying t = some (.map k e)) {x : κ} {kl : Lit} (hx : keyOf P k (kv x) = some kl) (ty : TypeId) :
    ∃ w', (Builtin.delete_ #[t, k] ty #[.map (some b), kv x]).run P w = .ok (.tuple #[]) w' ∧ MapG P k kv w' b n (upd f x none) ∧ w.grownBy w' (some b) := by
  obtain ⟨D, h, hD⟩ := h
  obtain ⟨w', hr, ho, hg⟩ := h.drop K ht hx ty
  refine ⟨w', hr, ⟨_, ho, fun y yl hy => ?_⟩, hg.grown⟩
  by_cases hi : y = x
  · subst hi
    rw [hx] at hy
    cases hy
    rw [upd_same, has_del_same]
    exact ⟨rfl, by simp⟩
  · have hne : yl ≠ kl := fun e => hi (hinj _ _ (K.inj (e ▸ hy) hx))
    rw [upd_other f none hi, has_del_other hne]
    refine ⟨(hD y yl hy).1, fun u z hu => ?_⟩
    rw [atKey_del_other hne]
    exact (hD y yl hy).2 u z hu
end

section
variable {P : Program} {κ : Type} {ops : Array Oper} {rest : List Oper} {o : Oper} {a : Act} {Q : Exit → Act → World → Prop} {w : World} {F : Fence} {nF : Nat}
/-- 'v, ok := m[x]', for a walk. -/
theorem wpList_look_mapG (hg : o.guard = none) (m x : Operand) (t : TypeId) (hop : o.op = Op.lookup t m x true)
    (k e : TypeId) (K : Keyed P k) (ht : P.underlying t = some (.map k e)) (z : Value) (hz : (zeroValue e).run P w = .ok z w) (kv : κ → Value) (b n : Nat) (f : κ → Option Value)
    (hm : a.eval m = .map (some b)) (h : MapG P k kv w b n f) (j : κ) (kl : Lit) (hx : a.eval x = kv j) (hj : keyOf P k (kv j) = some kl) (v : Value) (c : Bool) (hv : (f j).getD z = v) (hc : (f j).isSome = c)
    (hK : wpList P ops Q rest (a.put o.dst (.tuple #[v, .bool c])) w) :
    wpList P ops Q (o :: rest) a w := by
  refine wpList_plain hg fun K' hK' => ?_
  have hrun := h.look K ht hz hj
  rw [hv, hc] at hrun
  unfold Oper.wp
  simp [execOp, hop, hm, hx, hrun, Result.andThen]
  exact hK' _ _ hK
theorem wpListIn_look_mapG (hg : o.guard = none) (m x : Operand) (t : TypeId) (hop : o.op = Op.lookup t m x true)
    (k e : TypeId) (K : Keyed P k) (ht : P.underlying t = some (.map k e)) (z : Value) (hz : (zeroValue e).run P w = .ok z w) (kv : κ → Value) (b n : Nat) (f : κ → Option Value)
    (hm : a.eval m = .map (some b)) (h : MapG P k kv w b n f) (j : κ) (kl : Lit) (hx : a.eval x = kv j) (hj : keyOf P k (kv j) = some kl) (v : Value) (c : Bool) (hv : (f j).getD z = v) (hc : (f j).isSome = c)
    (hK : wpListIn F nF P ops Q rest (a.put o.dst (.tuple #[v, .bool c])) w) :
    wpListIn F nF P ops Q (o :: rest) a w := by
  refine wpListIn_plain hg fun K' hK' => ?_
  have hrun := h.look K ht hz hj
  rw [hv, hc] at hrun
  unfold Oper.wpIn
  refine ⟨by simp [Oper.about, hop], ?_⟩
  rw [Oper.semAt_plain F _ _ (by rw [hop]; intro c hc'; cases hc')]
  simp [execOp, hop, hm, hx, hrun, Result.andThen]
  exact hK' _ _ hK
theorem wpList_get_mapG (hg : o.guard = none) (m x : Operand) (t : TypeId) (hop : o.op = Op.lookup t m x false)
    (k e : TypeId) (K : Keyed P k) (ht : P.underlying t = some (.map k e)) (z : Value) (hz : (zeroValue e).run P w = .ok z w) (kv : κ → Value) (b n : Nat) (f : κ → Option Value)
    (hm : a.eval m = .map (some b)) (h : MapG P k kv w b n f) (j : κ) (kl : Lit) (hx : a.eval x = kv j) (hj : keyOf P k (kv j) = some kl) (v : Value) (hv : (f j).getD z = v)
    (hK : wpList P ops Q rest (a.put o.dst v) w) :
    wpList P ops Q (o :: rest) a w := by
  refine wpList_plain hg fun K' hK' => ?_
  have hrun := h.get K ht hz hj
  rw [hv] at hrun
  unfold Oper.wp
  simp [execOp, hop, hm, hx, hrun, Result.andThen]
  exact hK' _ _ hK
/-- 'm[x] = v'. -/
theorem wpList_set_mapG (hg : o.guard = none) (m x v : Operand) (t : TypeId) (hop : o.op = Op.mapUpdate t m x v)
    (k e : TypeId) (K : Keyed P k) (kv : κ → Value) (hinj : ∀ x y, kv x = kv y → x = y) (ht : P.underlying t = some (.map k e)) (b n : Nat) (f : κ → Option Value)
    (hm : a.eval m = .map (some b)) (h : MapG P k kv w b n f) (hn : n < maxLen) (j : κ) (kl : Lit) (hx : a.eval x = kv j) (hj : keyOf P k (kv j) = some kl) (val : Value) (hv : a.eval v = val)
    (hK : ∀ w', MapG P k kv w' b (n + 1) (upd f j (some val)) → w.grownBy w' (some b) → wpList P ops Q rest (a.put o.dst undef) w') :
    wpList P ops Q (o :: rest) a w := by
  refine wpList_plain hg fun K' hK' => ?_
  obtain ⟨w', hrun, r1, r2⟩ := h.set K hinj ht hn hj val
  unfold Oper.wp
  simp [execOp, hop, hm, hx, hv, hrun, Result.andThen]
  exact hK' _ _ (hK w' r1 r2)
theorem wpListIn_set_mapG (hg : o.guard = none) (m x v : Operand) (t : TypeId) (hop : o.op = Op.mapUpdate t m x v)
    (k e : TypeId) (K : Keyed P k) (kv : κ → Value) (hinj : ∀ x y, kv x = kv y → x = y) (ht : P.underlying t = some (.map k e)) (b n : Nat) (f : κ → Option Value)
    (hm : a.eval m = .map (some b)) (h : MapG P k kv w b n f) (hn : n < maxLen) (j : κ) (kl : Lit) (hx : a.eval x = kv j) (hj : keyOf P k (kv j) = some kl) (val : Value) (hv : a.eval v = val)
    (hK : ∀ w', MapG P k kv w' b (n + 1) (upd f j (some val)) → w.grownBy w' (some b) → wpListIn F nF P ops Q rest (a.put o.dst undef) w') :
    wpListIn F nF P ops Q (o :: rest) a w := by
  refine wpListIn_plain hg fun K' hK' => ?_
  obtain ⟨w', hrun, r1, r2⟩ := h.set K hinj ht hn hj val
  unfold Oper.wpIn
  refine ⟨by simp [Oper.about, hop], ?_⟩
  rw [Oper.semAt_plain F _ _ (by rw [hop]; intro c hc'; cases hc')]
  simp [execOp, hop, hm, hx, hv, hrun, Result.andThen]
  exact hK' _ _ (hK w' r1 r2)
/-- 'delete(m, x)'. -/
theorem wpList_del_mapG (hg : o.guard = none) (m x : Operand) (t k : TypeId) (hop : o.op = Op.call { callee := Callee.builtin Builtin.delete, args := #[m, x], argTypes := #[t, k] })
    (e : TypeId) (K : Keyed P k) (kv : κ → Value) (hinj : ∀ x y, kv x = kv y → x = y) (ht : P.underlying t = some (.map k e)) (b n : Nat) (f : κ → Option Value)
    (hm : a.eval m = .map (some b)) (h : MapG P k kv w b n f) (j : κ) (kl : Lit) (hx : a.eval x = kv j) (hj : keyOf P k (kv j) = some kl)
    (hK : ∀ w', MapG P k kv w' b n (upd f j none) → w.grownBy w' (some b) → wpList P ops Q rest (a.put o.dst (.tuple #[])) w') :
    wpList P ops Q (o :: rest) a w := by
  refine wpList_plain hg fun K' hK' => ?_
  obtain ⟨w', hrun, r1, r2⟩ := h.del K hinj ht hj o.type
  unfold Oper.wp
  simp [execOp, hop, resolve, invoke, builtin, hm, hx, hrun, Result.andThen]
  exact hK' _ _ (hK w' r1 r2)
theorem wpListIn_del_mapG (hg : o.guard = none) (m x : Operand) (t k : TypeId) (hop : o.op = Op.call { callee := Callee.builtin Builtin.delete, args := #[m, x], argTypes := #[t, k] })
    (e : TypeId) (K : Keyed P k) (kv : κ → Value) (hinj : ∀ x y, kv x = kv y → x = y) (ht : P.underlying t = some (.map k e)) (b n : Nat) (f : κ → Option Value)
    (hm : a.eval m = .map (some b)) (h : MapG P k kv w b n f) (j : κ) (kl : Lit) (hx : a.eval x = kv j) (hj : keyOf P k (kv j) = some kl)
    (hK : ∀ w', MapG P k kv w' b n (upd f j none) → w.grownBy w' (some b) → wpListIn F nF P ops Q rest (a.put o.dst (.tuple #[])) w') :
    wpListIn F nF P ops Q (o :: rest) a w := by
  refine wpListIn_plain hg fun K' hK' => ?_
  obtain ⟨w', hrun, r1, r2⟩ := h.del K hinj ht hj o.type
  unfold Oper.wpIn
  refine ⟨by simp [Oper.about, hop, resolve, Target.leads, Sem.run_pure], ?_⟩
  rw [Oper.semAt_plain F _ _ (by rw [hop]; intro c hc'; cases hc')]
  simp [execOp, hop, resolve, invoke, builtin, hm, hx, hrun, Result.andThen]
  exact hK' _ _ (hK w' r1 r2)
end

theorem vint_inj (x y : Int) (h : Value.int .i64 x = .int .i64 y) : x = y := by cases h; rfl
/-- A struct of two numbers, or a row of two. -/
def two (x : Int × Int) : Value := .agg #[.int .i64 x.1, .int .i64 x.2]
theorem two_inj (x y : Int × Int) (h : two x = two y) : x = y := by
  obtain ⟨a, b⟩ := x
  obtain ⟨c, d⟩ := y
  unfold two at h
  simp at h
  rw [h.1, h.2]
end Go.Proofs.Ytkidkhjpijjphaa.base

/- Whether a trace is right: package hist's own (may, enter, Right). -/
namespace Go.Proofs.Ytkidkhjpijjphaa.hs
open Go Go.RowKit Go.Proofs.Ytkidkhjpijjphaa.base Go.Maps
set_option linter.unusedVariables false
set_option maxRecDepth 100000

/-- Its numbers are ints. -/
structure Ev.Wf (e : Ev) : Prop where
  k : (Lit.int .i64 e.k).wf = true
  th : (Lit.int .i64 e.th).wf = true
  tx : (Lit.int .i64 e.tx).wf = true
  at_ : (Lit.int .i64 e.at_).wf = true
  ob : (Lit.int .i64 e.ob).wf = true
  va : (Lit.int .i64 e.va).wf = true
  re : (Lit.int .i64 e.re).wf = true

/-- An event's cells. -/
def evc (e : Ev) : List Value := [.int .i64 e.k, .int .i64 e.th, .int .i64 e.tx, .int .i64 e.at_, .int .i64 e.ob, .int .i64 e.va, .int .i64 e.re]
def Ev.get (e : Ev) : Nat → Int
  | 0 => e.k
  | 1 => e.th
  | 2 => e.tx
  | 3 => e.at_
  | 4 => e.ob
  | 5 => e.va
  | _ => e.re

/-- The first n events of e lie there. -/
def IsEvs (w : World) (a : Option Addr) (n : Nat) (e : Evs) : Prop :=
  n = 0 ∨ ∃ b off, a = some ⟨b, off, none⟩ ∧ b < w.heap.size ∧ ∀ i, i < n → (∀ j, j < 7 → w.cell? ⟨b, off + (i * 7 + j), none⟩ = some (.int .i64 (Ev.get (e i) j))) ∧ Ev.Wf (e i)

theorem isEvs_of {w : World} {a : Option Addr} {len cap : Nat} {z : Nat → Nat → Int} (h : IsInts 7 w a len cap z) : IsEvs w a len (fun i => ⟨z i 0, z i 1, z i 2, z i 3, z i 4, z i 5, z i 6⟩) := by
  obtain ⟨_, _, h | ⟨b, off, rfl, hb, hc⟩⟩ := h
  · exact .inl h
  · refine .inr ⟨b, off, rfl, hb, fun i hi => ⟨fun j hj => ?_, ⟨(hc i 0 hi (by omega)).2, (hc i 1 hi (by omega)).2, (hc i 2 hi (by omega)).2, (hc i 3 hi (by omega)).2, (hc i 4 hi (by omega)).2, (hc i 5 hi (by omega)).2, (hc i 6 hi (by omega)).2⟩⟩⟩
    have h := (hc i j hi hj).1
    match j, hj with
    | 0, _ => exact h
    | 1, _ => exact h
    | 2, _ => exact h
    | 3, _ => exact h
    | 4, _ => exact h
    | 5, _ => exact h
    | 6, _ => exact h

section
variable {w w' : World} {a : Option Addr} {n : Nat} {e : Evs}
theorem IsEvs.below (h : IsEvs w a n e) {B : Nat} (g : Below B w w') (hb : w.heap.size ≤ B) : IsEvs w' a n e := by
  rcases h with h | ⟨b, off, rfl, hlt, hc⟩
  · exact .inl h
  · exact .inr ⟨b, off, rfl, Nat.lt_of_lt_of_le hlt g.size, fun i hi => ⟨fun j hj => (g.cell (p := ⟨b, off + (i * 7 + j), none⟩) (Nat.lt_of_lt_of_le hlt hb)).trans ((hc i hi).1 j hj), (hc i hi).2⟩⟩
theorem IsEvs.less (h : IsEvs w a n e) {m : Nat} (hm : m ≤ n) : IsEvs w a m e := by
  rcases h with h | ⟨b, off, rfl, hlt, hc⟩
  · exact .inl (by omega)
  · exact .inr ⟨b, off, rfl, hlt, fun i hi => hc i (by omega)⟩
theorem IsEvs.grown (h : IsEvs w a n e) (g : w.grownBy w' none) : IsEvs w' a n e := h.below (gb_below g) (Nat.le_refl _)
theorem IsEvs.at7 (h : IsEvs w a n e) {i : Nat} (hi : i < n) : ∃ b off, a = some ⟨b, off, none⟩ ∧ b < w.heap.size ∧ w.cell? ⟨b, off + i * 7, none⟩ = some (.int .i64 (e i).k) ∧ w.cell? ⟨b, off + i * 7 + 1, none⟩ = some (.int .i64 (e i).th) ∧ w.cell? ⟨b, off + i * 7 + 2, none⟩ = some (.int .i64 (e i).tx) ∧ w.cell? ⟨b, off + i * 7 + 3, none⟩ = some (.int .i64 (e i).at_) ∧ w.cell? ⟨b, off + i * 7 + 4, none⟩ = some (.int .i64 (e i).ob) ∧ w.cell? ⟨b, off + i * 7 + 5, none⟩ = some (.int .i64 (e i).va) ∧ w.cell? ⟨b, off + i * 7 + 6, none⟩ = some (.int .i64 (e i).re) ∧ Ev.Wf (e i) := by
  rcases h with h | ⟨b, off, rfl, hlt, hc⟩
  · omega
  · obtain ⟨h1, h2⟩ := hc i hi
    exact ⟨b, off, rfl, hlt, h1 0 (by omega), h1 1 (by omega), h1 2 (by omega), h1 3 (by omega), h1 4 (by omega), h1 5 (by omega), h1 6 (by omega), h2⟩
end

theorem laidOut17 : laidOutB Try.prog = true := by kernel_rfl
theorem rowTxn : (138 : TypeId) < Try.prog.types.size := of_decide_eq_true (by kernel_rfl)
theorem kTxn : Keyed Try.prog 138 := Keyed.of_law (deep_law_laid laidOut17 (m := 2) (by omega) rowTxn (by kernel_rfl) (by rw [Try.underlying138]))
theorem kInt : Keyed Try.prog 3 := int_keyed Try.underlying3
theorem keyInt {x : Int} (h : (Lit.int .i64 x).wf = true) : keyOf Try.prog 3 (.int .i64 x) = some (.int .i64 x) := keyOf_int_mk Try.underlying3 h
theorem keyTxn {x : Int × Int} (h1 : (Lit.int .i64 x.1).wf = true) (h2 : (Lit.int .i64 x.2).wf = true) : ∃ kl, keyOf Try.prog 138 (two x) = some kl := by
  have hkt : Try.prog.keyType 138 = true := by kernel_rfl
  have hc : Try.prog.cellsOf 138 = 2 := by kernel_rfl
  have hci : Try.prog.cellsOf 3 = 1 := by kernel_rfl
  have hs : Try.prog.types.size = (Try.prog.types.size - 1) + 1 := by kernel_rfl
  refine ⟨.string (keyBytes [.int .i64 x.1, .int .i64 x.2]), ?_⟩
  unfold keyOf two
  simp only [Try.underlying138]
  rw [if_pos (by simp [hkt, Value.formed, Try.underlying138, hc]), hs]
  unfold Program.keyLits
  simp only [Try.underlying138, Value.cells]
  have hk : ∀ (m : Nat) (v : Int), (Lit.int .i64 v).wf = true → Try.prog.keyLits (m + 1) 3 [.int .i64 v] = some [.int .i64 v] := fun m v h => by
    unfold Program.keyLits
    simp only [Try.underlying3]
    rw [if_pos ⟨trivial, h⟩]
  obtain ⟨m, hm⟩ : ∃ m, Try.prog.types.size - 1 + 1 = m + 1 + 1 := ⟨Try.prog.types.size - 2, by kernel_rfl⟩
  rw [if_pos (by rw [hc]; exact ⟨rfl, by kernel_rfl⟩)]
  simp only [List.mapM_cons, List.mapM_nil, hci]
  have e1 : Try.prog.types.size - 1 = m + 1 := by omega
  rw [e1]
  simp [hk, h1, h2]

theorem zeroEv (w : World) : (zeroValue 51).run Try.prog w = .ok (.agg #[.int .i64 0, .int .i64 0, .int .i64 0, .int .i64 0, .int .i64 0, .int .i64 0, .int .i64 0]) w := by kernel_rfl
theorem zeroInt (w : World) : (zeroValue 3).run Try.prog w = .ok (.int .i64 0) w := by kernel_rfl

/-- May this one come, where o began last and goes on, and c is what its transaction has counted? -/
def mayB (o : Option Ev) (c : Int) (e : Ev) : Bool :=
  match o with
  | none => (e.k == 1 && e.at_ == IntKind.i64.wrap (c + 1)) || e.k == 7
  | some b => decide (2 ≤ e.k) && decide (e.k ≤ 6) && e.tx == b.tx && e.at_ == b.at_

/-- What the book's first map has. -/
def opnV (o : Option Ev) : Option Value := o.map fun b => .agg ⟨evc b⟩

end Go.Proofs.Ytkidkhjpijjphaa.hs

/- One's own blocks: a list of blocks (their numbers, types and cells; a new one comes to the front) that were made since a world w0, and all that was there in w0 stands. Plain facts on memory, of no program. -/
namespace Go.Proofs.Ytkidkhjpijjphaa.base
open Go Go.RowKit

/-- w came of w0 by new blocks alone, and those of L are among them, with these cells. -/
structure Own (w0 w : World) (L : List (Nat × TypeId × List Value)) : Prop where
  grow : w0.grownBy w none
  blk : ∀ e ∈ L, w0.heap.size ≤ e.1 ∧ Blk e.2.1 w e.1 ⟨e.2.2⟩
  down : L.Pairwise (fun a b => a.1 ≠ b.1)

theorem Blk.at {w : World} {b : Nat} {t : TypeId} {cs : List Value} (h : Blk t w b ⟨cs⟩) (j : Nat) {v : Value} (hv : cs[j]? = some v) : w.cell? ⟨b, j, none⟩ = some v := by
  rw [h.cell j]
  simpa using hv
theorem size_alloc (w : World) (o : Obj) : (w.alloc o).heap.size = w.heap.size + 1 := by simp
theorem size_setCell (w : World) (p : Addr) (u : Value) : (w.setCell p u).heap.size = w.heap.size := by simp [World.setCell]

/-- Nor is the block behind the next one there yet. -/
theorem new_ne1 (w : World) (a : Addr) {u : Value} (h : w.cell? a = some u) : w.heap.size + 1 ≠ a.block := Nat.ne_of_gt (Nat.lt_succ_of_lt (World.block_lt_of_cell? w a h))

section
variable {w0 w w' : World} {L : List (Nat × TypeId × List Value)}
theorem Own.start (w : World) : Own w w [] := ⟨gb_refl w _, by simp, by simp⟩
theorem Own.drew (h : Own w0 w L) : Own w0 w.drew L := ⟨gb_drew h.grow, h.blk, h.down⟩
theorem Own.drewN (h : Own w0 w L) (n : Nat) : Own w0 (w.drewN n) L := ⟨gb_drewN h.grow n, h.blk, h.down⟩
theorem Own.size (h : Own w0 w L) : w0.heap.size ≤ w.heap.size := h.grow.size
theorem Own.grown (h : Own w0 w L) (g : w.grownBy w' none) : Own w0 w' L :=
  ⟨gb_trans h.grow g, fun e he => ⟨(h.blk e he).1, (h.blk e he).2.grown g (by simp)⟩, h.down⟩
theorem Own.skip (h : Own w0 w L) (o : Obj) : Own w0 (w.alloc o) L := h.grown (World.grownBy_alloc w o none)
theorem Own.alloc (h : Own w0 w L) (t : TypeId) (cs : List Value) : Own w0 (w.alloc (.cells ⟨cs⟩ t)) ((w.heap.size, t, cs) :: L) := by
  refine ⟨gb_alloc h.grow _, ?_, ?_⟩
  · intro e he
    rcases List.mem_cons.1 he with rfl | he
    · exact ⟨h.grow.size, Blk.made w t _⟩
    · exact ⟨(h.blk e he).1, (h.blk e he).2.alloc _⟩
  · exact List.pairwise_cons.2 ⟨fun e he => Nat.ne_of_gt (h.blk e he).2.lt, h.down⟩
theorem Own.get (h : Own w0 w L) (k : Nat) {b : Nat} {t : TypeId} {cs : List Value} (hk : L[k]? = some (b, t, cs)) : Blk t w b ⟨cs⟩ := (h.blk _ (List.mem_of_getElem? hk)).2
theorem Own.base (h : Own w0 w L) (k : Nat) {b : Nat} {t : TypeId} {cs : List Value} (hk : L[k]? = some (b, t, cs)) : w0.heap.size ≤ b := (h.blk _ (List.mem_of_getElem? hk)).1
theorem Own.lt (h : Own w0 w L) (k : Nat) {b : Nat} {t : TypeId} {cs : List Value} (hk : L[k]? = some (b, t, cs)) : b < w.heap.size := (h.get k hk).lt
theorem Own.cell (h : Own w0 w L) (k j : Nat) {b : Nat} {t : TypeId} {cs : List Value} {v : Value} (hk : L[k]? = some (b, t, cs)) (hv : cs[j]? = some v) : w.cell? ⟨b, j, none⟩ = some v := by
  rw [(h.get k hk).cell j]
  simpa using hv
theorem Own.free (h : Own w0 w L) (k j : Nat) {b : Nat} {t : TypeId} {cs : List Value} (hk : L[k]? = some (b, t, cs)) : w.frozen? ⟨b, j, none⟩ = false := (h.get k hk).free j
theorem Own.ne (h : Own w0 w L) (i k : Nat) {b c : Nat} {t u : TypeId} {cs ds : List Value} (hi : L[i]? = some (b, t, cs)) (hk : L[k]? = some (c, u, ds)) (hik : i ≠ k) : b ≠ c := by
  have := List.pairwise_iff_getElem.1 h.down
  obtain ⟨hi1, hi2⟩ := List.getElem?_eq_some_iff.1 hi
  obtain ⟨hk1, hk2⟩ := List.getElem?_eq_some_iff.1 hk
  rcases Nat.lt_or_gt_of_ne hik with l | l
  · have h3 := this i k hi1 hk1 l
    rw [hi2, hk2] at h3
    exact h3
  · have h3 := this k i hk1 hi1 l
    rw [hi2, hk2] at h3
    exact fun e => h3 e.symm
theorem Own.ne' (h : Own w0 w L) (i k : Nat) {b c : Nat} {t u : TypeId} {cs ds : List Value} (hi : L[i]? = some (b, t, cs)) (hk : L[k]? = some (c, u, ds)) (hik : i ≠ k) : b ≠ c ∧ c ≠ b :=
  ⟨h.ne i k hi hk hik, h.ne k i hk hi (Ne.symm hik)⟩
/-- Entry k alone was written. -/
theorem Own.change (h : Own w0 w L) (k : Nat) {b : Nat} {t : TypeId} {cs ds : List Value} (hk : L[k]? = some (b, t, cs)) (g : w.grownBy w' (some b)) (hb : Blk t w' b ⟨ds⟩) : Own w0 w' (L.set k (b, t, ds)) := by
  obtain ⟨hk1, hk2⟩ := List.getElem?_eq_some_iff.1 hk
  refine ⟨gb_over h.grow g (h.base k hk), ?_, ?_⟩
  · intro e he
    obtain ⟨i, hi⟩ := List.getElem?_of_mem he
    by_cases hik : k = i
    · subst hik
      rw [List.getElem?_set_self hk1] at hi
      cases hi
      exact ⟨h.base k hk, hb⟩
    · rw [List.getElem?_set_ne hik] at hi
      obtain ⟨c, u, es⟩ := e
      refine ⟨h.base i hi, (h.get i hi).grown g ?_⟩
      intro e1
      cases e1
      exact h.ne k i hk hi hik rfl
  · have hd := List.pairwise_iff_getElem.1 h.down
    refine List.pairwise_iff_getElem.2 fun i j hi hj hij => ?_
    have hi' : i < L.length := by simpa using hi
    have hj' : j < L.length := by simpa using hj
    have h0 := hd i j hi' hj' hij
    have key : ∀ m (hm : m < L.length) (hm2 : m < (L.set k (b, t, ds)).length), ((L.set k (b, t, ds))[m]).1 = (L[m]).1 := by
      intro m hm hm2
      by_cases hkm : k = m
      · subst hkm
        rw [List.getElem_set_self, hk2]
      · rw [List.getElem_set_ne hkm]
    rw [key i hi' hi, key j hj' hj]
    exact h0
theorem Own.set (h : Own w0 w L) (k j : Nat) (u : Value) {b : Nat} {t : TypeId} {cs : List Value} (hk : L[k]? = some (b, t, cs)) : Own w0 (w.setCell ⟨b, j, none⟩ u) (L.set k (b, t, cs.set j u)) :=
  h.change k hk (gb_setB (gb_refl _ _) u) (by simpa using (h.get k hk).set j u)
theorem Own.below (h : Own w0 w L) : Below w0.heap.size w0 w := gb_below h.grow
/-- What was there stays. -/
theorem Own.old (h : Own w0 w L) {p : Addr} {v : Value} (hc : w0.cell? p = some v) : w.cell? p = some v := h.grow.cell hc (by simp)
theorem Own.apart (h : Own w0 w L) (k : Nat) {b c : Nat} {t : TypeId} {cs : List Value} (hk : L[k]? = some (b, t, cs)) (hc : c < w0.heap.size) : c < b := Nat.lt_of_lt_of_le hc (h.base k hk)
theorem Own.perm (h : Own w0 w L) {M : List (Nat × TypeId × List Value)} (hp : List.Perm L M) : Own w0 w M :=
  ⟨h.grow, fun e he => h.blk e (hp.mem_iff.2 he), (hp.pairwise_iff (fun {_ _} e => Ne.symm e)).1 h.down⟩
theorem Own.swap {x y : Nat × TypeId × List Value} (h : Own w0 w (x :: y :: L)) : Own w0 w (y :: x :: L) := h.perm (List.Perm.swap y x L)
theorem Own.drop (h : Own w0 w L) {M : List (Nat × TypeId × List Value)} (hs : List.Sublist M L) : Own w0 w M := ⟨h.grow, fun e he => h.blk e (hs.mem he), h.down.sublist hs⟩
end
end Go.Proofs.Ytkidkhjpijjphaa.base

/- What a transaction does, as plain numbers: of no program. An operation is told by three numbers: kind, object, arg; a list by z : which one, which number. -/
namespace Go.Proofs.Ytkidkhjpijjphaa.lg
open Go Go.RowKit Go.Proofs.Ytkidkhjpijjphaa.base

/-- May it be, of n objects? -/
def okB (k o a n : Int) : Bool := if k = 3 ∨ k = 4 then decide (o = 0 ∧ -128 ≤ a ∧ a ≤ 127) else decide (1 ≤ k ∧ k ≤ 5 ∧ 0 ≤ o ∧ o < n ∧ a = 0)

theorem okB_obj {k o a : Int} {n : Nat} (h : okB k o a n = true) (hk : k = 1 ∨ k = 2) : ∃ i : Nat, o = i ∧ i < n := by
  unfold okB at h
  rw [if_neg (by omega)] at h
  simp at h
  exact ⟨o.toNat, by omega, by omega⟩
theorem okB_kind {k o a n : Int} (h : okB k o a n = true) : k = 1 ∨ k = 2 ∨ k = 3 ∨ k = 4 ∨ k = 5 := by
  unfold okB at h
  split at h
  · omega
  · simp at h; omega

/-- The first m may be. -/
def okN (z : Nat → Nat → Int) (n : Int) : Nat → Bool
  | 0 => true
  | m + 1 => okN z n m && okB (z m 0) (z m 1) (z m 2) n
theorem okN_at {z : Nat → Nat → Int} {n : Int} {m : Nat} (h : okN z n m = true) {i : Nat} (hi : i < m) : okB (z i 0) (z i 1) (z i 2) n = true := by
  induction m with
  | zero => omega
  | succ m ih =>
    simp only [okN, Bool.and_eq_true] at h
    by_cases e : i = m
    · subst e; exact h.2
    · exact ih h.1 (by omega)
theorem okN_of {z : Nat → Nat → Int} {n : Int} {m : Nat} (h : ∀ i, i < m → okB (z i 0) (z i 1) (z i 2) n = true) : okN z n m = true := by
  induction m with
  | zero => rfl
  | succ m ih =>
    simp only [okN, Bool.and_eq_true]
    exact ⟨ih fun i hi => h i (by omega), h m (by omega)⟩
theorem okN_false {z : Nat → Nat → Int} {n : Int} {m i : Nat} (hi : i < m) (h : okB (z i 0) (z i 1) (z i 2) n = false) : okN z n m = false := by
  cases e : okN z n m with
  | false => rfl
  | true => rw [okN_at e hi] at h; cases h
theorem okN_le {z : Nat → Nat → Int} {n : Int} {m k : Nat} (h : okN z n m = true) (hk : k ≤ m) : okN z n k = true := okN_of fun i hi => okN_at h (by omega)
theorem okN_first {z : Nat → Nat → Int} {n : Int} {m : Nat} (h : okN z n m = false) : ∃ i, i < m ∧ okN z n i = true ∧ okB (z i 0) (z i 1) (z i 2) n = false := by
  induction m with
  | zero => cases h
  | succ m ih =>
    cases e : okN z n m with
    | false =>
      obtain ⟨i, hi, h1, h2⟩ := ih e
      exact ⟨i, by omega, h1, h2⟩
    | true =>
      refine ⟨m, by omega, e, ?_⟩
      simpa [okN, e] using h

/-- Is it a transaction of n objects? -/
def rightB (z : Nat → Nat → Int) (m : Nat) (n : Int) : Bool := decide (0 < m) && decide (m < 9) && okN z n m

/-- The sum behind one. -/
def sumI (k a s : Int) : Int := if k = 3 then a else if k = 4 then wrap64 (s + a) else s

/-- The sum, and the values, behind the first k of them. -/
def run (z : Nat → Nat → Int) (v : Nat → Int) : Nat → Int × (Nat → Int)
  | 0 => (0, v)
  | k + 1 =>
    let p := run z v k
    if z k 0 = 1 then (p.2 (z k 1).toNat, p.2)
    else if z k 0 = 2 then (p.1, fun i => if i = (z k 1).toNat then p.1 else p.2 i)
    else (sumI (z k 0) (z k 2) p.1, p.2)

/-- How many of the first k read or write. -/
def opens (z : Nat → Nat → Int) : Nat → Nat
  | 0 => 0
  | k + 1 => opens z k + if z k 0 = 1 ∨ z k 0 = 2 then 1 else 0
theorem opens_le (z : Nat → Nat → Int) (k : Nat) : opens z k ≤ k := by
  induction k with
  | zero => exact Nat.le_refl _
  | succ k ih => unfold opens; split <;> omega

/-- The numbers of an operation's cells. -/
def opc (z : Nat → Int) : List Value := [.int .i64 (z 0), .int .i64 (z 1), .int .i64 (z 2)]

/-- The first n operations, as a row of cells. -/
def ops (z : Nat → Nat → Int) (n : Nat) : List Value := (List.range n).flatMap fun i => opc (z i)
theorem ops_succ (z : Nat → Nat → Int) (n : Nat) : ops z (n + 1) = ops z n ++ opc (z n) := by simp [ops, List.range_succ]
theorem ops_length (z : Nat → Nat → Int) (n : Nat) : (ops z n).length = n * 3 := by
  induction n with
  | zero => rfl
  | succ n ih => rw [ops_succ, List.length_append, ih]; simp [opc]; omega
theorem ops_get (z : Nat → Nat → Int) (n i j : Nat) (h : i < n) (hj : j < 3) : (ops z n)[i * 3 + j]? = some (.int .i64 (z i j)) := by
  induction n with
  | zero => omega
  | succ n ih =>
    have hl := ops_length z n
    rw [ops_succ]
    by_cases hi : i < n
    · rw [List.getElem?_append_left (by omega)]
      exact ih hi
    · obtain rfl : i = n := by omega
      rw [List.getElem?_append_right (by omega), hl, show i * 3 + j - i * 3 = j by omega]
      rcases (by omega : j = 0 ∨ j = 1 ∨ j = 2) with rfl | rfl | rfl <;> rfl
theorem ops_congr {z z' : Nat → Nat → Int} {n : Nat} (h : ∀ i j, i < n → j < 3 → z i j = z' i j) : ops z n = ops z' n := by
  induction n with
  | zero => rfl
  | succ n ih => rw [ops_succ, ops_succ, ih (fun i j hi hj => h i j (by omega) hj), opc, opc, h n 0 (by omega) (by omega), h n 1 (by omega) (by omega), h n 2 (by omega) (by omega)]

/-- A slice of operations, wherever it lies: z tells them. -/
def IsOps (w : World) (a : Option Addr) (n : Nat) (z : Nat → Nat → Int) : Prop :=
  n = 0 ∨ ∃ b off, a = some ⟨b, off, none⟩ ∧ b < w.heap.size ∧ ∀ i j, i < n → j < 3 → w.cell? ⟨b, off + (i * 3 + j), none⟩ = some (.int .i64 (z i j))
/-- A slice of numbers, wherever it lies. -/
def IsNums (k : IntKind) (w : World) (a : Option Addr) (n : Nat) (z : Nat → Int) : Prop :=
  n = 0 ∨ ∃ b off, a = some ⟨b, off, none⟩ ∧ b < w.heap.size ∧ ∀ i, i < n → w.cell? ⟨b, off + i, none⟩ = some (.int k (z i))

section
variable {w w' : World} {a : Option Addr} {n : Nat} {z : Nat → Nat → Int} {f : Nat → Int} {k : IntKind}
theorem IsOps.of_ints {cap : Nat} (h : IsInts 3 w a n cap z) : IsOps w a n z := by
  obtain ⟨_, _, h | ⟨b, off, rfl, hb, h⟩⟩ := h
  · exact .inl h
  · exact .inr ⟨b, off, rfl, hb, fun i j hi hj => (h i j hi hj).1⟩
theorem IsNums.of_row {cap : Nat} (h : IsRow k w a n cap f) : IsNums k w a n f := by
  obtain ⟨_, _, h | ⟨b, off, rfl, hb, h⟩⟩ := h
  · exact .inl h
  · exact .inr ⟨b, off, rfl, hb, fun i hi => (h i hi).1⟩
theorem IsOps.keep (h : IsOps w a n z) (g : ∀ b off, a = some ⟨b, off, none⟩ → b < w.heap.size → w'.heap[b]? = w.heap[b]?) (hs : w.heap.size ≤ w'.heap.size) : IsOps w' a n z := by
  rcases h with h | ⟨b, off, rfl, hb, h⟩
  · exact .inl h
  · exact .inr ⟨b, off, rfl, by omega, fun i j hi hj => (World.cell?_of_block (g b off rfl hb)).trans (h i j hi hj)⟩
theorem IsNums.keep (h : IsNums k w a n f) (g : ∀ b off, a = some ⟨b, off, none⟩ → b < w.heap.size → w'.heap[b]? = w.heap[b]?) (hs : w.heap.size ≤ w'.heap.size) : IsNums k w' a n f := by
  rcases h with h | ⟨b, off, rfl, hb, h⟩
  · exact .inl h
  · exact .inr ⟨b, off, rfl, by omega, fun i hi => (World.cell?_of_block (g b off rfl hb)).trans (h i hi)⟩
theorem IsOps.grown (h : IsOps w a n z) (g : w.grownBy w' none) : IsOps w' a n z := h.keep (fun b _ _ hb => g.block b hb (by simp)) g.size
theorem IsNums.grown (h : IsNums k w a n f) (g : w.grownBy w' none) : IsNums k w' a n f := h.keep (fun b _ _ hb => g.block b hb (by simp)) g.size
theorem IsOps.below (h : IsOps w a n z) (g : Below w.heap.size w w') : IsOps w' a n z := h.keep (fun b _ _ hb => g.block b hb) g.size
theorem IsNums.below (h : IsNums k w a n f) (g : Below w.heap.size w w') : IsNums k w' a n f := h.keep (fun b _ _ hb => g.block b hb) g.size
theorem IsOps.less (h : IsOps w a n z) {m : Nat} (hm : m ≤ n) : IsOps w a m z := by
  rcases h with h | ⟨b, off, rfl, hb, h⟩
  · exact .inl (by omega)
  · exact .inr ⟨b, off, rfl, hb, fun i j hi hj => h i j (by omega) hj⟩
theorem IsOps.congr (h : IsOps w a n z) {z' : Nat → Nat → Int} (e : ∀ i j, i < n → j < 3 → z i j = z' i j) : IsOps w a n z' := by
  rcases h with h | ⟨b, off, rfl, hb, h⟩
  · exact .inl h
  · exact .inr ⟨b, off, rfl, hb, fun i j hi hj => by rw [← e i j hi hj]; exact h i j hi hj⟩
theorem IsNums.congr (h : IsNums k w a n f) {f' : Nat → Int} (e : ∀ i, i < n → f i = f' i) : IsNums k w a n f' := by
  rcases h with h | ⟨b, off, rfl, hb, h⟩
  · exact .inl h
  · exact .inr ⟨b, off, rfl, hb, fun i hi => by rw [← e i hi]; exact h i hi⟩
/-- What one owns is one. -/
theorem IsOps.of_own {base : Nat} {e : TypeId} {cap : Nat} (h : w.ownsRow base e 3 (.slice a n cap) n (ops z n)) : IsOps w a n z := by
  rcases h.2 with ⟨_, h0⟩ | ⟨g, cap2, cur, e, hb, hg, _⟩
  · exact .inl h0
  · injection e with e1 e2 e3
    subst e1
    refine .inr ⟨g, 0, rfl, lt_of_block hg, fun i j hi hj => ?_⟩
    rw [Nat.zero_add]
    exact (h.cellAt (i * 3 + j) (by omega)).trans (ops_get z n i j hi hj)
theorem IsNums.of_own {base : Nat} {e : TypeId} {cap : Nat} (h : w.ownsRow base e 1 (.slice a n cap) n ((List.range n).map fun i => .int k (f i))) : IsNums k w a n f := by
  rcases h.2 with ⟨_, h0⟩ | ⟨g, cap2, cur, e, hb, hg, _⟩
  · exact .inl h0
  · injection e with e1 e2 e3
    subst e1
    refine .inr ⟨g, 0, rfl, lt_of_block hg, fun i hi => ?_⟩
    rw [Nat.zero_add]
    refine (h.cellAt i (by omega)).trans ?_
    simp [hi]
theorem IsOps.of_blk {t : TypeId} {b : Nat} (h : Blk t w b ⟨ops z n⟩) : IsOps w (some ⟨b, 0, none⟩) n z := by
  refine .inr ⟨b, 0, rfl, h.lt, fun i j hi hj => ?_⟩
  rw [Nat.zero_add, h.cell]
  simpa using ops_get z n i j hi hj
theorem IsNums.of_blk {t : TypeId} {b : Nat} (h : Blk t w b ⟨(List.range n).map fun i => Value.int k (f i)⟩) : IsNums k w (some ⟨b, 0, none⟩) n f := by
  refine .inr ⟨b, 0, rfl, h.lt, fun i hi => ?_⟩
  rw [Nat.zero_add, h.cell]
  simp [hi]
/-- One of them. -/
theorem IsOps.at3 (h : IsOps w a n z) {i : Nat} (hi : i < n) : ∃ b off, a = some ⟨b, off, none⟩ ∧ b < w.heap.size ∧ w.cell? ⟨b, off + i * 3, none⟩ = some (.int .i64 (z i 0)) ∧ w.cell? ⟨b, off + i * 3 + 1, none⟩ = some (.int .i64 (z i 1)) ∧ w.cell? ⟨b, off + i * 3 + 2, none⟩ = some (.int .i64 (z i 2)) := by
  rcases h with h | ⟨b, off, rfl, hb, h⟩
  · omega
  · exact ⟨b, off, rfl, hb, h i 0 hi (by omega), h i 1 hi (by omega), h i 2 hi (by omega)⟩
theorem IsNums.at1 (h : IsNums k w a n f) {i : Nat} (hi : i < n) : ∃ b off, a = some ⟨b, off, none⟩ ∧ b < w.heap.size ∧ w.cell? ⟨b, off + i, none⟩ = some (.int k (f i)) := by
  rcases h with h | ⟨b, off, rfl, hb, h⟩
  · omega
  · exact ⟨b, off, rfl, hb, h i hi⟩
/-- As the source of an append. -/
theorem IsOps.src (h : IsOps w a n z) : (n = 0 ∧ ops z n = []) ∨ ∃ ad, a = some ad ∧ ∀ j u, (ops z n)[j]? = some u → w.cell? (ad.add j) = some u := by
  rcases h with rfl | ⟨b, off, rfl, hb, h⟩
  · exact .inl ⟨rfl, rfl⟩
  · refine .inr ⟨_, rfl, fun j u hj => ?_⟩
    have hlt := (List.getElem?_eq_some_iff.1 hj).1
    rw [ops_length] at hlt
    have e : j = j / 3 * 3 + j % 3 := by omega
    rw [e, ops_get z n (j / 3) (j % 3) (by omega) (by omega)] at hj
    rw [add_eq, e]
    exact (h (j / 3) (j % 3) (by omega) (by omega)).trans hj
theorem IsNums.src (h : IsNums k w a n f) : (n = 0 ∧ ((List.range n).map fun i => Value.int k (f i)) = []) ∨ ∃ ad, a = some ad ∧ ∀ j u, ((List.range n).map fun i => Value.int k (f i))[j]? = some u → w.cell? (ad.add j) = some u := by
  rcases h with rfl | ⟨b, off, rfl, hb, h⟩
  · exact .inl ⟨rfl, rfl⟩
  · refine .inr ⟨_, rfl, fun j u hj => ?_⟩
    have hlt := (List.getElem?_eq_some_iff.1 hj).1
    simp only [List.length_map, List.length_range] at hlt
    simp [hlt] at hj
    rw [add_eq, ← hj]
    exact h j hlt
end

/-- The first n numbers of f, as bytes. -/
def u8s (f : Nat → Int) (n : Nat) : List Value := (List.range n).map fun i => Value.int .u8 (f i)
theorem u8s_succ3 (f : Nat → Int) (n : Nat) : u8s f (n + 3) = u8s f n ++ [.int .u8 (f n), .int .u8 (f (n + 1)), .int .u8 (f (n + 2))] := by simp [u8s, List.range_succ]
theorem u8s_length (f : Nat → Int) (n : Nat) : (u8s f n).length = n := by simp [u8s]
theorem u8s_congr {f g : Nat → Int} {n : Nat} (h : ∀ i, i < n → f i = g i) : u8s f n = u8s g n := List.map_congr_left fun i hi => by rw [h i (by simpa using hi)]
/-- The bytes of operations. -/
def pb (z : Nat → Nat → Int) (j : Nat) : Int := z (j / 3) (j % 3) % 256
theorem pb0 (z : Nat → Nat → Int) (k : Nat) : pb z (k * 3) = z k 0 % 256 := by unfold pb; rw [show k * 3 / 3 = k by omega, show k * 3 % 3 = 0 by omega]
theorem pb1 (z : Nat → Nat → Int) (k : Nat) : pb z (k * 3 + 1) = z k 1 % 256 := by unfold pb; rw [show (k * 3 + 1) / 3 = k by omega, show (k * 3 + 1) % 3 = 1 by omega]
theorem pb2 (z : Nat → Nat → Int) (k : Nat) : pb z (k * 3 + 2) = z k 2 % 256 := by unfold pb; rw [show (k * 3 + 2) / 3 = k by omega, show (k * 3 + 2) % 3 = 2 by omega]
/-- A byte of two's complement. -/
def s8 (x : Int) : Int := if 127 < x then x - 256 else x
/-- The operations of bytes. -/
def gz (f : Nat → Int) (i j : Nat) : Int := if j = 2 then s8 (f (i * 3 + 2)) else f (i * 3 + j)

theorem one_ops (z : Nat → Nat → Int) (n : Nat) : ∀ u ∈ ops z n, u.oneCell' = true := by
  intro u hu
  obtain ⟨i, _, hi⟩ := List.mem_flatMap.1 hu
  simp only [opc, List.mem_cons, List.not_mem_nil, or_false] at hi
  rcases hi with rfl | rfl | rfl <;> rfl
theorem one_nums (k : IntKind) (f : Nat → Int) (n : Nat) : ∀ u ∈ (List.range n).map (fun i => Value.int k (f i)), u.oneCell' = true := by
  intro u hu
  obtain ⟨_, _, rfl⟩ := List.mem_map.1 hu
  rfl

theorem ownsRow_drop {base base' : Nat} {e : TypeId} {sz : Nat} {w : World} {v : Value} {n : Nat} {xs : List Value} (h : w.ownsRow base e sz v n xs) (hb : base' ≤ base) : w.ownsRow base' e sz v n xs := by
  refine ⟨h.1, ?_⟩
  rcases h.2 with hn | ⟨g, cap, cur, rfl, h4, h5, rest⟩
  · exact .inl hn
  · exact .inr ⟨g, cap, cur, rfl, Nat.le_trans hb h4, h5, rest⟩
/-- How much room it has. -/
theorem row_cap {base : Nat} {e : TypeId} {sz : Nat} {w : World} {a : Option Addr} {n cap : Nat} {xs : List Value} (h : w.ownsRow base e sz (.slice a n cap) n xs) : n ≤ cap ∧ cap ≤ maxLen := by
  rcases h.2 with ⟨e, h0⟩ | ⟨g, c, cur, e, _, _, h6, h7, _⟩
  · injection e with _ e2 e3
    subst e3
    exact ⟨by omega, by unfold maxLen; omega⟩
  · injection e with _ e2 e3
    subst e3
    exact ⟨h6, h7⟩
theorem bytes_of {w : World} {a : Option Addr} {n cap : Nat} {f : Nat → Int} (h : IsRow .u8 w a n cap f) : ∀ i, i < n → 0 ≤ f i ∧ f i ≤ 255 := by
  intro i hi
  obtain ⟨_, _, h | ⟨b, off, rfl, _, h⟩⟩ := h
  · omega
  · exact bounds_u8 (h i hi).2

/-- A block that was made just now, as the source of an append. -/
theorem new_src (w : World) (l : List Value) (e : TypeId) (H : Nat) (h : w.heap.size = H) {m : Nat} : (m = 0 ∧ l = []) ∨ ∃ ad, (some ⟨H, 0, none⟩ : Option Addr) = some ad ∧ ∀ j u, l[j]? = some u → (w.alloc (.cells l.toArray e)).cell? (ad.add j) = some u := by
  subst h
  exact .inr ⟨_, rfl, fun j u hu => new_cells w l e j u hu⟩

/-- append onto a slice of one's own, of whatever slice, of nothing, too. -/
theorem run_append_any {P : Program} (w : World) (base : Nat) (t ty e : TypeId) (i : TypeInfo) (z : Value) (size bytes : Nat) (ht : P.underlying t = some (.slice e)) (hi : P.info? e = some i) (hz : i.zero = some z)
    (hsize : i.size = size) (hby : i.bytes = bytes) (hzs : z.cells.size = size) (hsz : 0 < size)
    (v : Value) (n : Nat) (xs : List Value) (hown : w.ownsRow base e size v n xs)
    (ao : Option Addr) (m c : Nat) (news : List Value) (hl : news.length = m * size) (hsrc : (m = 0 ∧ news = []) ∨ ∃ ad, ao = some ad ∧ ∀ j u, news[j]? = some u → w.cell? (ad.add j) = some u) (h1 : ∀ u ∈ news, u.oneCell' = true)
    (h63 : n + m ≤ maxLen) (hbytes : (n + m) * bytes ≤ 140737488355328) (hbase : base ≤ w.heap.size) :
    ∃ v' w', (Builtin.append_ #[t, t] ty #[v, .slice ao m c]).run P w = .ok v' w' ∧ w'.ownsRow base e size v' (n + m) (xs ++ news) ∧ w.grownBy w' v.ownBlock ∧
      (v'.ownBlock = v.ownBlock ∨ ∃ k, v'.ownBlock = some k ∧ w.heap.size ≤ k) := by
  by_cases hao : ∃ ad, ao = some ad
  · obtain ⟨ad, rfl⟩ := hao
    refine run_append_at w base t ty e i z size bytes ht hi hz hsize hby hzs hsz v n xs hown ad m c news hl ?_ h1 h63 hbytes hbase
    rcases hsrc with ⟨rfl, rfl⟩ | ⟨ad', e', h⟩
    · intro j u h'; simp at h'
    · cases e'; exact h
  · obtain rfl : ao = none := by
      cases ao with
      | none => rfl
      | some ad => exact absurd ⟨ad, rfl⟩ hao
    rcases hsrc with ⟨rfl, rfl⟩ | ⟨ad', e', h⟩
    · obtain ⟨sb, cap, rfl, hle⟩ : ∃ sb cap, v = .slice sb n cap ∧ n ≤ cap := by
        rcases hown.2 with ⟨rfl, rfl⟩ | ⟨g, cap, cur, rfl, _, _, hnc, _⟩
        · exact ⟨none, 0, rfl, Nat.le_refl _⟩
        · exact ⟨_, cap, rfl, hnc⟩
      subst hsize
      exact ⟨_, _, run_append_nothing (P := P) w t t ty e i ht hi sb n cap hle _ (Src.ofNil (P := P) w ht c), by simpa using hown, gb_refl _ _, .inl rfl⟩
    · cases e'

theorem wpList_append_any {P : Program} (w : World) {ops : Array Oper} {rest : List Oper} {o : Oper} {a : Act} {Q : Exit → Act → World → Prop}
    (hgd : o.guard = none) (s x : Operand) (t : TypeId) (hop : o.op = Op.call { callee := Callee.builtin Builtin.append, args := #[s, x], argTypes := #[t, t] })
    (base : Nat) (e : TypeId) (i : TypeInfo) (z : Value) (size bytes : Nat) (h1 : P.underlying t = some (.slice e)) (h2 : P.info? e = some i) (h3 : i.zero = some z) (h4 : i.size = size) (h5 : i.bytes = bytes) (h6 : z.cells.size = size) (h7 : 0 < size)
    (v : Value) (n : Nat) (xs : List Value) (hs : a.eval s = v) (hown : w.ownsRow base e size v n xs)
    (ao : Option Addr) (m c : Nat) (news : List Value) (hx : a.eval x = .slice ao m c) (hl : news.length = m * size) (hsrc : (m = 0 ∧ news = []) ∨ ∃ ad, ao = some ad ∧ ∀ j u, news[j]? = some u → w.cell? (ad.add j) = some u) (h1c : ∀ u ∈ news, u.oneCell' = true)
    (h63 : n + m ≤ maxLen) (hbytes : (n + m) * bytes ≤ 140737488355328) (hbase : base ≤ w.heap.size)
    (hK : ∀ b' cap w', w'.ownsRow base e size (.slice b' (n + m) cap) (n + m) (xs ++ news) → w.grownBy w' v.ownBlock → ((Value.slice b' (n + m) cap).ownBlock = v.ownBlock ∨ ∃ k, (Value.slice b' (n + m) cap).ownBlock = some k ∧ w.heap.size ≤ k) → wpList P ops Q rest (a.put o.dst (.slice b' (n + m) cap)) w') :
    wpList P ops Q (o :: rest) a w := by
  refine wpList_plain hgd fun K hK' => ?_
  obtain ⟨v', w', hrun, r1, r2, r3⟩ := run_append_any (P := P) w base t o.type e i z size bytes h1 h2 h3 h4 h5 h6 h7 v n xs hown ao m c news hl hsrc h1c h63 hbytes hbase
  obtain ⟨b', cap, rfl⟩ : ∃ b' cap, v' = .slice b' (n + m) cap := by
    rcases r1.2 with ⟨rfl, h0⟩ | ⟨g, cap, cur, rfl, _⟩
    · exact ⟨none, 0, by rw [h0]⟩
    · exact ⟨_, cap, rfl⟩
  unfold Oper.wp
  simp [execOp, hop, resolve, invoke, builtin, hs, hx, hrun, Result.andThen]
  exact hK' _ _ (hK b' cap w' r1 r2 r3)
end Go.Proofs.Ytkidkhjpijjphaa.lg

/- Lists of things of some cells each, as rows of cells; one's own blocks by their shape: plain facts, of no program. -/
namespace Go.Proofs.Ytkidkhjpijjphaa.base
open Go Go.RowKit Go.Proofs.Ytkidkhjpijjphaa.lg

/-- The cells of a list of things. -/
def rows {α : Type} (f : α → List Value) (l : List α) : List Value := l.flatMap f

/-- A list of blocks: their numbers, types, cells. -/
abbrev Blks := List (Nat × TypeId × List Value)

/-- A slice of things lies where a says. -/
def IsL {α : Type} (f : α → List Value) (w : World) (a : Option Addr) (l : List α) : Prop :=
  l = [] ∨ ∃ b off, a = some ⟨b, off, none⟩ ∧ b < w.heap.size ∧ ∀ j u, (rows f l)[j]? = some u → w.cell? ⟨b, off + j, none⟩ = some u

/-- v is a slice of one's own of the things of l, of type e, k cells each; its blocks are those of L: none or one. -/
def Row {α : Type} (f : α → List Value) (k : Nat) (e : TypeId) (l : List α) (v : Value) (L : Blks) : Prop :=
  (l = [] ∧ v = .slice none 0 0 ∧ L = []) ∨ ∃ g cap cur, v = .slice (some ⟨g, 0, none⟩) l.length cap ∧ L = [(g, e, cur)] ∧ l.length ≤ cap ∧ cap ≤ maxLen ∧ cur.length = cap * k ∧ cur.take (l.length * k) = rows f l

/-- Among one's own blocks stand some of this shape, in front of R. -/
def Has (S : Blks → Prop) (w0 w : World) (R : Blks) : Prop := ∃ X, S X ∧ Own w0 w (X ++ R)

section
variable {α : Type} {f : α → List Value} {k : Nat} {l : List α}
theorem rows_length (hf : ∀ x, (f x).length = k) (l : List α) : (rows f l).length = l.length * k := by
  induction l with
  | nil => simp [rows]
  | cons x l ih =>
    simp only [rows, List.flatMap_cons, List.length_append, List.length_cons] at *
    rw [ih, hf, Nat.add_mul]
    omega
theorem rows_append (l m : List α) : rows f (l ++ m) = rows f l ++ rows f m := by simp [rows]
theorem rows_one (x : α) : rows f [x] = f x := by simp [rows]
theorem rows_snoc (l : List α) (x : α) : rows f (l ++ [x]) = rows f l ++ f x := by simp [rows]
theorem rows_get (hf : ∀ x, (f x).length = k) : ∀ (l : List α) (j i : Nat) (x : α), l[j]? = some x → i < k → (rows f l)[j * k + i]? = (f x)[i]?
  | [], j, i, x, h, _ => by simp at h
  | y :: l, 0, i, x, h, hi => by
    simp at h
    subst h
    simp only [rows, List.flatMap_cons, Nat.zero_mul, Nat.zero_add]
    rw [List.getElem?_append_left (by rw [hf]; exact hi)]
  | y :: l, j + 1, i, x, h, hi => by
    have ih := rows_get hf l j i x (by simpa using h) hi
    simp only [rows, List.flatMap_cons]
    rw [List.getElem?_append_right (by rw [hf, Nat.succ_mul]; omega), hf, ← ih]
    simp only [rows]
    congr 1
    rw [Nat.succ_mul]
    omega
theorem rows_ext (hf : ∀ x, (f x).length = k) (hk : 0 < k) (l : List α) (cs : List Value) (hl : cs.length = l.length * k) (h : ∀ j i x, l[j]? = some x → i < k → cs[j * k + i]? = (f x)[i]?) : cs = rows f l := by
  apply List.ext_getElem?
  intro n
  by_cases hn : n < l.length * k
  · have e : n = n / k * k + n % k := (Nat.div_add_mod' n k).symm
    have hj : n / k < l.length := Nat.div_lt_of_lt_mul (by rw [Nat.mul_comm]; exact hn)
    rw [e, h _ _ _ (List.getElem?_eq_getElem hj) (Nat.mod_lt _ hk), rows_get hf _ _ _ _ (List.getElem?_eq_getElem hj) (Nat.mod_lt _ hk)]
  · rw [List.getElem?_eq_none (by omega), List.getElem?_eq_none (by rw [rows_length hf]; omega)]
theorem rows_one_cell (h1 : ∀ x, ∀ u ∈ f x, u.oneCell' = true) (l : List α) : ∀ u ∈ rows f l, u.oneCell' = true := by
  intro u hu
  obtain ⟨x, _, hx⟩ := List.mem_flatMap.1 hu
  exact h1 x u hx
end

section
variable {α : Type} {f : α → List Value} {k : Nat} {l l' : List α} {w w' w0 w1 : World} {a : Option Addr} {e : TypeId} {v v' : Value} {L R Q : Blks}
theorem IsL.keep (h : IsL f w a l) (g : ∀ b off, a = some ⟨b, off, none⟩ → b < w.heap.size → w'.heap[b]? = w.heap[b]?) (hs : w.heap.size ≤ w'.heap.size) : IsL f w' a l := by
  rcases h with h | ⟨b, off, rfl, hb, h⟩
  · exact .inl h
  · exact .inr ⟨b, off, rfl, by omega, fun j u hu => (World.cell?_of_block (g b off rfl hb)).trans (h j u hu)⟩
theorem IsL.grown (h : IsL f w a l) (g : w.grownBy w' none) : IsL f w' a l := h.keep (fun b _ _ hb => g.block b hb (by simp)) g.size
theorem IsL.below (h : IsL f w a l) (g : Below w.heap.size w w') : IsL f w' a l := h.keep (fun b _ _ hb => g.block b hb) g.size
theorem IsL.alloc (h : IsL f w a l) (o : Obj) : IsL f (w.alloc o) a l := h.grown (World.grownBy_alloc w o none)
theorem IsL.drew (h : IsL f w a l) : IsL f w.drew a l := h
theorem IsL.drewN (h : IsL f w a l) (n : Nat) : IsL f (w.drewN n) a l := h
theorem IsL.nil : IsL f w a [] := .inl rfl
theorem IsL.at (h : IsL f w a l) (hf : ∀ x, (f x).length = k) {j : Nat} {x : α} (hj : l[j]? = some x) : ∃ b off, a = some ⟨b, off, none⟩ ∧ b < w.heap.size ∧ ∀ i u, (f x)[i]? = some u → w.cell? ⟨b, off + j * k + i, none⟩ = some u := by
  rcases h with rfl | ⟨b, off, rfl, hb, h⟩
  · simp at hj
  · refine ⟨b, off, rfl, hb, fun i u hu => ?_⟩
    have hi : i < k := by have := (List.getElem?_eq_some_iff.1 hu).1; rw [hf] at this; exact this
    rw [Nat.add_assoc]
    exact h _ _ ((rows_get hf l j i x hj hi).trans hu)
theorem IsL.src (h : IsL f w a l) : (l.length = 0 ∧ rows f l = []) ∨ ∃ ad, a = some ad ∧ ∀ j u, (rows f l)[j]? = some u → w.cell? (ad.add j) = some u := by
  rcases h with rfl | ⟨b, off, rfl, hb, h⟩
  · exact .inl ⟨rfl, rfl⟩
  · exact .inr ⟨_, rfl, fun j u hu => by rw [add_eq]; exact h j u hu⟩
theorem IsL.of_own {base n cap : Nat} (h : w.ownsRow base e k (.slice a n cap) n (rows f l)) (hf : ∀ x, (f x).length = k) (hn : n = l.length) : IsL f w a l := by
  rcases h.2 with ⟨_, h0⟩ | ⟨g, cap2, cur, e, hb, hg, _⟩
  · exact .inl (List.eq_nil_of_length_eq_zero (by omega))
  · injection e with e1 e2 e3
    subst e1
    refine .inr ⟨g, 0, rfl, lt_of_block hg, fun j u hu => ?_⟩
    have hj : j < n * k := by have := (List.getElem?_eq_some_iff.1 hu).1; rw [rows_length hf] at this; rw [hn]; exact this
    rw [Nat.zero_add]
    exact (h.cellAt j hj).trans hu

theorem Own.fresh (h : Own w0 w R) (g : w.grownBy w' none) {q : Nat} {cur : List Value} (hq : w.heap.size ≤ q) (hb : Blk e w' q ⟨cur⟩) : Own w0 w' ((q, e, cur) :: R) := by
  refine ⟨gb_trans h.grow g, ?_, ?_⟩
  · intro x hx
    rcases List.mem_cons.1 hx with rfl | hx
    · exact ⟨Nat.le_trans h.grow.size hq, hb⟩
    · exact ⟨(h.blk x hx).1, (h.blk x hx).2.grown g (by simp)⟩
  · exact List.pairwise_cons.2 ⟨fun x hx => Nat.ne_of_gt (Nat.lt_of_lt_of_le (h.blk x hx).2.lt hq), h.down⟩
/-- The first one was written, whatever it is now. -/
theorem Own.lose {b : Nat} {t : TypeId} {cs : List Value} (h : Own w0 w ((b, t, cs) :: R)) (g : w.grownBy w' (some b)) : Own w0 w' R := by
  have hd := List.pairwise_cons.1 h.down
  refine ⟨gb_over h.grow g (h.base 0 rfl), fun x hx => ⟨(h.blk x (List.mem_cons_of_mem _ hx)).1, (h.blk x (List.mem_cons_of_mem _ hx)).2.grown g ?_⟩, hd.2⟩
  intro e1
  cases e1
  exact hd.1 x hx rfl
theorem Own.mid {b : Nat × TypeId × List Value} : Own w0 w (b :: (L ++ R)) ↔ Own w0 w (L ++ (b :: R)) := ⟨fun h => h.perm List.perm_middle.symm, fun h => h.perm List.perm_middle⟩
theorem Own.comm {A B : Blks} (h : Own w0 w (A ++ (B ++ R))) : Own w0 w (B ++ (A ++ R)) := h.perm (by rw [← List.append_assoc, ← List.append_assoc]; exact List.perm_append_comm.append_right R)

theorem Row.owns (h : Row f k e l v L) (hf : ∀ x, (f x).length = k) (o : Own w0 w (L ++ R)) : w.ownsRow w0.heap.size e k v l.length (rows f l) := by
  refine ⟨rows_length hf l, ?_⟩
  rcases h with ⟨rfl, rfl, rfl⟩ | ⟨g, cap, cur, rfl, rfl, h1, h2, h3, h4⟩
  · exact .inl ⟨rfl, rfl⟩
  · exact .inr ⟨g, cap, ⟨cur⟩, rfl, o.base 0 rfl, o.get 0 rfl, h1, h2, by simpa using h3, by simpa using h4⟩
theorem Row.slice (h : Row f k e l v L) : ∃ a cap, v = .slice a l.length cap := by
  rcases h with ⟨rfl, rfl, rfl⟩ | ⟨g, cap, cur, rfl, rfl, _⟩
  · exact ⟨none, 0, rfl⟩
  · exact ⟨_, cap, rfl⟩
theorem Row.isL (h : Row f k e l v L) (hf : ∀ x, (f x).length = k) (o : Own w0 w (L ++ R)) : ∃ a cap, v = .slice a l.length cap ∧ IsL f w a l := by
  obtain ⟨a, cap, rfl⟩ := h.slice
  exact ⟨a, cap, rfl, IsL.of_own (h.owns hf o) hf rfl⟩
theorem Row.nil : Row f k e ([] : List α) (.slice none 0 0) [] := .inl ⟨rfl, rfl, rfl⟩
theorem Row.of_own {base n : Nat} (o : Own w0 w R) (g : w.grownBy w' none) (h : w'.ownsRow base e k v n (rows f l)) (hb : w.heap.size ≤ base) (hn : n = l.length) : ∃ L, Row f k e l v L ∧ Own w0 w' (L ++ R) := by
  subst hn
  rcases h.2 with ⟨rfl, h0⟩ | ⟨q, cap, cur, rfl, hq, hg, h1, h2, h3, h4⟩
  · exact ⟨[], .inl ⟨List.eq_nil_of_length_eq_zero h0, rfl, rfl⟩, o.grown g⟩
  · exact ⟨[(q, e, cur.toList)], .inr ⟨q, cap, cur.toList, rfl, rfl, h1, h2, by simpa using h3, h4⟩, o.fresh g (Nat.le_trans hb hq) hg⟩
/-- It was appended to. -/
theorem Row.grow {n : Nat} (h : Row f k e l v L) (o : Own w0 w (L ++ R)) (h' : w1.ownsRow w0.heap.size e k v' n (rows f l')) (hn : n = l'.length) (g : w.grownBy w1 v.ownBlock) (hv : v'.ownBlock = v.ownBlock ∨ ∃ q, v'.ownBlock = some q ∧ w.heap.size ≤ q) :
    ∃ L', Row f k e l' v' L' ∧ Own w0 w1 (L' ++ R) := by
  subst hn
  rcases h'.2 with ⟨rfl, h0⟩ | ⟨q, cap, cur, rfl, hq, hg, h1, h2, h3, h4⟩
  · refine ⟨[], .inl ⟨List.eq_nil_of_length_eq_zero h0, rfl, rfl⟩, ?_⟩
    rcases h with ⟨rfl, rfl, rfl⟩ | ⟨g0, cap0, cur0, rfl, rfl, _⟩
    · exact o.grown g
    · exact Own.lose o g
  · refine ⟨[(q, e, cur.toList)], .inr ⟨q, cap, cur.toList, rfl, rfl, h1, h2, by simpa using h3, h4⟩, ?_⟩
    rcases h with ⟨rfl, rfl, rfl⟩ | ⟨g0, cap0, cur0, rfl, rfl, _⟩
    · rcases hv with hv | ⟨q', hv, hq'⟩
      · simp [Value.ownBlock] at hv
      · simp only [Value.ownBlock, Option.some.injEq] at hv
        subst hv
        exact Own.fresh o g hq' hg
    · rcases hv with hv | ⟨q', hv, hq'⟩
      · simp only [Value.ownBlock, Option.some.injEq] at hv
        subst hv
        exact o.change 0 rfl g hg
      · simp only [Value.ownBlock, Option.some.injEq] at hv
        subst hv
        have o2 := Own.lose o g
        refine ⟨o2.grow, ?_, ?_⟩
        · intro x hx
          rcases List.mem_cons.1 hx with rfl | hx
          · exact ⟨hq, hg⟩
          · exact o2.blk x hx
        · exact List.pairwise_cons.2 ⟨fun x hx => Nat.ne_of_gt (Nat.lt_of_lt_of_le (o.blk x (List.mem_cons_of_mem _ hx)).2.lt hq'), o2.down⟩
/-- One thing was appended. -/
theorem Row.snoc {x : α} {w2 : World} {g' c' : Nat} (h : Row f k e l v L) (o : Own w0 w (L ++ R)) (hw : w.grownBy w2 none) (ho : w1.ownsRow w0.heap.size e k (.slice (some ⟨g', 0, none⟩) (l.length + 1) c') (l.length + 1) (rows f l ++ f x)) (hg : w2.grownBy w1 v.ownBlock) (hv : some g' = v.ownBlock ∨ w2.heap.size ≤ g') :
    ∃ L', Row f k e (l ++ [x]) (.slice (some ⟨g', 0, none⟩) (l.length + 1) c') L' ∧ Own w0 w1 (L' ++ R) :=
  Row.grow h (o.grown hw) (by rw [rows_snoc]; exact ho) (by simp) hg (hv.elim .inl (fun h => .inr ⟨g', rfl, h⟩))
/-- Its cells were written. -/
theorem Row.write {g cap : Nat} {cur' : List Value} (h : Row f k e l (.slice (some ⟨g, 0, none⟩) l.length cap) L) (o : Own w0 w (L ++ R)) (hg : w.grownBy w1 (some g)) (hb : Blk e w1 g ⟨cur'⟩) (hl : cur'.length = cap * k) (hn : l'.length ≤ cap) (ht : cur'.take (l'.length * k) = rows f l') :
    ∃ L', Row f k e l' (.slice (some ⟨g, 0, none⟩) l'.length cap) L' ∧ Own w0 w1 (L' ++ R) := by
  rcases h with ⟨rfl, h, rfl⟩ | ⟨g0, cap0, cur0, h, rfl, h1, h2, h3, h4⟩
  · cases h
  · injection h with e1 e2 e3
    injection e1 with e1
    injection e1 with e1
    subst e1; subst e3
    exact ⟨[(g, e, cur')], .inr ⟨g, cap, cur', rfl, rfl, hn, h2, hl, ht⟩, o.change 0 rfl hg hb⟩
theorem Row.open {g cap : Nat} (h : Row f k e l (.slice (some ⟨g, 0, none⟩) l.length cap) L) (o : Own w0 w (L ++ R)) : ∃ cur, Blk e w g ⟨cur⟩ ∧ cur.length = cap * k ∧ l.length ≤ cap ∧ cap ≤ maxLen ∧ cur.take (l.length * k) = rows f l := by
  rcases h with ⟨rfl, h, rfl⟩ | ⟨g0, cap0, cur0, h, rfl, h1, h2, h3, h4⟩
  · cases h
  · injection h with e1 e2 e3
    injection e1 with e1
    injection e1 with e1
    subst e1; subst e3
    exact ⟨cur0, o.get 0 rfl, h3, h1, h2, h4⟩
theorem Row.some (h : Row f k e l v L) (hn : 0 < l.length) : ∃ g cap, v = .slice (some ⟨g, 0, none⟩) l.length cap := by
  rcases h with ⟨rfl, rfl, rfl⟩ | ⟨g, cap, cur, rfl, _⟩
  · simp at hn
  · exact ⟨g, cap, rfl⟩
end

section
variable {S S' : Blks → Prop} {w0 w w' : World} {R M : Blks}
theorem Has.own (h : Has S w0 w R) : Own w0 w R := by
  obtain ⟨X, _, o⟩ := h
  exact o.drop (List.sublist_append_right _ _)
theorem Has.grown (h : Has S w0 w R) (g : w.grownBy w' none) : Has S w0 w' R := by
  obtain ⟨X, hX, o⟩ := h
  exact ⟨X, hX, o.grown g⟩
theorem Has.drew (h : Has S w0 w R) : Has S w0 w.drew R := by
  obtain ⟨X, hX, o⟩ := h
  exact ⟨X, hX, o.drew⟩
theorem Has.drewN (h : Has S w0 w R) (n : Nat) : Has S w0 (w.drewN n) R := by
  obtain ⟨X, hX, o⟩ := h
  exact ⟨X, hX, o.drewN n⟩
theorem Has.skip (h : Has S w0 w R) (o : Obj) : Has S w0 (w.alloc o) R := h.grown (World.grownBy_alloc w o none)
theorem Has.alloc (h : Has S w0 w R) (t : TypeId) (cs : List Value) : Has S w0 (w.alloc (.cells ⟨cs⟩ t)) ((w.heap.size, t, cs) :: R) := by
  obtain ⟨X, hX, o⟩ := h
  exact ⟨X, hX, Own.mid.1 (o.alloc t cs)⟩
theorem Has.change (h : Has S w0 w R) (k : Nat) {c : Nat} {t : TypeId} {cs ds : List Value} (hk : R[k]? = some (c, t, cs)) (g : w.grownBy w' (some c)) (hb : Blk t w' c ⟨ds⟩) : Has S w0 w' (R.set k (c, t, ds)) := by
  obtain ⟨X, hX, o⟩ := h
  refine ⟨X, hX, ?_⟩
  have := o.change (X.length + k) (by rw [List.getElem?_append_right (by omega)]; simpa using hk) g hb
  rw [List.set_append, if_neg (by omega)] at this
  simpa using this
theorem Has.set (h : Has S w0 w R) (k j : Nat) (u : Value) {c : Nat} {t : TypeId} {cs : List Value} (hk : R[k]? = some (c, t, cs)) : Has S w0 (w.setCell ⟨c, j, none⟩ u) (R.set k (c, t, cs.set j u)) :=
  h.change k hk (gb_setB (gb_refl _ _) u) (by simpa using (h.own.get k hk).set j u)
theorem Has.drop (h : Has S w0 w R) (hs : List.Sublist M R) : Has S w0 w M := by
  obtain ⟨X, hX, o⟩ := h
  exact ⟨X, hX, o.drop (List.Sublist.append (List.Sublist.refl _) hs)⟩
theorem Has.perm (h : Has S w0 w R) (hp : List.Perm R M) : Has S w0 w M := by
  obtain ⟨X, hX, o⟩ := h
  exact ⟨X, hX, o.perm (hp.append_left X)⟩
theorem Has.below (h : Has S w0 w R) : Below w0.heap.size w0 w := h.own.below
theorem Has.grow (h : Has S w0 w R) : w0.grownBy w none := h.own.grow
theorem Has.size (h : Has S w0 w R) : w0.heap.size ≤ w.heap.size := h.own.size
theorem Has.old (h : Has S w0 w R) {p : Addr} {v : Value} (hc : w0.cell? p = some v) : w.cell? p = some v := h.own.old hc
theorem Has.get (h : Has S w0 w R) (k : Nat) {c : Nat} {t : TypeId} {cs : List Value} (hk : R[k]? = some (c, t, cs)) : Blk t w c ⟨cs⟩ := h.own.get k hk
theorem Has.lt (h : Has S w0 w R) (k : Nat) {c : Nat} {t : TypeId} {cs : List Value} (hk : R[k]? = some (c, t, cs)) : c < w.heap.size := h.own.lt k hk
theorem Has.cell (h : Has S w0 w R) (k j : Nat) {c : Nat} {t : TypeId} {cs : List Value} {v : Value} (hk : R[k]? = some (c, t, cs)) (hv : cs[j]? = some v) : w.cell? ⟨c, j, none⟩ = some v := h.own.cell k j hk hv
theorem Has.free (h : Has S w0 w R) (k j : Nat) {c : Nat} {t : TypeId} {cs : List Value} (hk : R[k]? = some (c, t, cs)) : w.frozen? ⟨c, j, none⟩ = false := h.own.free k j hk
theorem Has.ne' (h : Has S w0 w R) (i k : Nat) {c d : Nat} {t u : TypeId} {cs ds : List Value} (hi : R[i]? = some (c, t, cs)) (hk : R[k]? = some (d, u, ds)) (hik : i ≠ k) : c ≠ d ∧ d ≠ c := h.own.ne' i k hi hk hik
/-- One shape behind another. -/
def Both (S S' : Blks → Prop) : Blks → Prop := fun X => ∃ A B, S A ∧ S' B ∧ X = A ++ B
theorem Has.left (h : Has (Both S S') w0 w R) : ∃ B, S' B ∧ Has S w0 w (B ++ R) := by
  obtain ⟨_, ⟨A, B, hA, hB, rfl⟩, o⟩ := h
  exact ⟨B, hB, A, hA, by simpa using o⟩
theorem Has.right (h : Has (Both S S') w0 w R) : ∃ A, S A ∧ Has S' w0 w (A ++ R) := by
  obtain ⟨_, ⟨A, B, hA, hB, rfl⟩, o⟩ := h
  exact ⟨A, hA, B, hB, Own.comm (by simpa using o)⟩
theorem Has.ofLeft {B : Blks} (hB : S' B) (h : Has S w0 w (B ++ R)) : Has (Both S S') w0 w R := by
  obtain ⟨A, hA, o⟩ := h
  exact ⟨A ++ B, ⟨A, B, hA, hB, rfl⟩, by simpa using o⟩
theorem Has.ofRight {A : Blks} (hA : S A) (h : Has S' w0 w (A ++ R)) : Has (Both S S') w0 w R := by
  obtain ⟨B, hB, o⟩ := h
  exact ⟨A ++ B, ⟨A, B, hA, hB, rfl⟩, by have := Own.comm o; simpa using this⟩
/-- Two of them: the other one in front. -/
theorem Has.turn (h : Has S w0 w (M ++ R)) (hM : S' M) : ∃ X, S X ∧ Has S' w0 w (X ++ R) := by
  obtain ⟨X, hX, o⟩ := h
  exact ⟨X, hX, M, hM, o.comm⟩
end
end Go.Proofs.Ytkidkhjpijjphaa.base

/- A try on its way (hist's going): where it lies. -/
namespace Go.Proofs.Ytkidkhjpijjphaa.hs
open Go Go.RowKit Go.Proofs.Ytkidkhjpijjphaa.base Go.Maps
set_option linter.unusedVariables false
set_option maxRecDepth 100000

def accC (a : Acc) : List Value := [.int .i64 a.pl, .int .i64 a.k, .int .i64 a.ob, .int .i64 a.va, .bool a.own, .bool a.rel]
theorem accC_len (a : Acc) : (accC a).length = 6 := rfl
theorem accC_one (l : List Acc) : ∀ u ∈ rows accC l, u.oneCell' = true := by
  intro u hu
  unfold rows at hu
  obtain ⟨a, _, h⟩ := List.mem_flatMap.1 hu
  simp [accC] at h
  rcases h with rfl | rfl | rfl | rfl | rfl | rfl <;> rfl
def trC (t : Tr) (v : Value) : List Value := [.int .i64 t.th, .int .i64 t.tx, .int .i64 t.at_, .int .i64 t.st, .int .i64 t.b, .int .i64 t.en, .int .i64 t.re, .bool t.co, v]

/-- F, and the blocks that are new. -/
def Up (F : Nat → Prop) (w w' : World) : Nat → Prop := fun k => F k ∨ (w.heap.size ≤ k ∧ k < w'.heap.size)
theorem Up.old {F : Nat → Prop} {w w' : World} {k : Nat} (h : F k) : Up F w w' k := .inl h

def wroteV (W : Int → Bool) : Int → Option Value := fun o => if W o then some (.bool true) else none
def natV (n : Nat) : Value := .int .i64 n

/-- Block b is a try on its way, as t says; W says what it wrote, R the places of its readings of an object that aren't released; all of it in the blocks of F. -/
structure GngP (w : World) (F : Nat → Prop) (b : Nat) (t : Tr) (W : Int → Bool) (R : Int → List Nat) (N : Nat) (v : Value) (wm rm : Nat) (rd : Int → Option Value) : Prop where
  blk : Blk 131 w b ⟨trC t v ++ [.map (some wm), .map (some rm)]⟩
  row : w.ownsRow 0 48 6 v t.ac.length (rows accC t.ac)
  wmap : MapG Try.prog 3 (Value.int .i64) w wm N (wroteV W)
  rmap : MapG Try.prog 3 (Value.int .i64) w rm N rd
  nope : ∀ o, rd o = none → R o = []
  lst : ∀ o u, rd o = some u → w.ownsRow 0 3 1 u (R o).length ((R o).map natV)
  ne : wm ≠ rm
  apart : ∀ o p u x k, rd o = some u → rd p = some x → u.ownBlock = some k → x.ownBlock = some k → o = p
  fb : F b
  fv : ∀ k, v.ownBlock = some k → F k
  fw : F wm
  fr : F rm
  frd : ∀ o u k, rd o = some u → u.ownBlock = some k → F k

def Gng (w : World) (F : Nat → Prop) (b : Nat) (t : Tr) (W : Int → Bool) (R : Int → List Nat) (N : Nat) : Prop := ∃ v wm rm rd, GngP w F b t W R N v wm rm rd

section
variable {w w' : World} {F G : Nat → Prop} {b : Nat} {t : Tr} {W : Int → Bool} {R : Int → List Nat} {N : Nat} {v : Value} {wm rm : Nat} {rd : Int → Option Value}
theorem GngP.keep (h : GngP w F b t W R N v wm rm rd) (hk : ∀ k, F k → w'.heap[k]? = w.heap[k]?) (hG : ∀ k, F k → G k) : GngP w' G b t W R N v wm rm rd :=
  ⟨h.blk.keep (hk _ h.fb), ownsRow_keep h.row (fun k e => hk _ (h.fv k e)), h.wmap.keep (hk _ h.fw), h.rmap.keep (hk _ h.fr), h.nope, fun o u e => ownsRow_keep (h.lst o u e) (fun k e2 => hk _ (h.frd o u k e e2)), h.ne, h.apart, hG _ h.fb, fun k e => hG _ (h.fv k e), hG _ h.fw, hG _ h.fr, fun o u k e e2 => hG _ (h.frd o u k e e2)⟩
theorem Gng.keep (h : Gng w F b t W R N) (hk : ∀ k, F k → w'.heap[k]? = w.heap[k]?) : Gng w' F b t W R N := by
  obtain ⟨v, wm, rm, rd, h⟩ := h
  exact ⟨v, wm, rm, rd, h.keep hk (fun _ h => h)⟩
theorem GngP.v_lt (h : GngP w F b t W R N v wm rm rd) : ∀ k, v.ownBlock = some k → k < w.heap.size := fun k e => (h.row.lt k e).2
theorem GngP.v_ne (h : GngP w F b t W R N v wm rm rd) : ∀ k, v.ownBlock = some k → k ≠ b ∧ k ≠ wm ∧ k ≠ rm := fun k e => by
  obtain ⟨cs, hc⟩ := ownsRow_type h.row e
  refine ⟨fun e2 => ?_, fun e2 => ?_, fun e2 => ?_⟩
  · have := h.blk
    unfold Blk at this
    rw [← e2, hc] at this
    cases this
  · exact h.wmap.not_cells (e2 ▸ hc)
  · exact h.rmap.not_cells (e2 ▸ hc)
theorem GngP.rd_ne (h : GngP w F b t W R N v wm rm rd) {o : Int} {u : Value} (hu : rd o = some u) : ∀ k, u.ownBlock = some k → k ≠ b ∧ k ≠ wm ∧ k ≠ rm ∧ v.ownBlock ≠ some k ∧ k < w.heap.size := fun k e => by
  have hs := h.lst o u hu
  obtain ⟨cs, hc⟩ := ownsRow_type hs e
  refine ⟨fun e2 => ?_, fun e2 => ?_, fun e2 => ?_, fun e2 => ?_, (hs.lt k e).2⟩
  · have := h.blk
    unfold Blk at this
    rw [← e2, hc] at this
    cases this
  · exact h.wmap.not_cells (e2 ▸ hc)
  · exact h.rmap.not_cells (e2 ▸ hc)
  · obtain ⟨ds, hd⟩ := ownsRow_type h.row e2
    rw [hc] at hd
    cases hd
theorem GngP.wm_ne (h : GngP w F b t W R N v wm rm rd) : wm ≠ b := h.wmap.ne_blk h.blk
theorem GngP.rm_ne (h : GngP w F b t W R N v wm rm rd) : rm ≠ b := h.rmap.ne_blk h.blk
end

theorem owns_slice {w : World} {base : Nat} {e : TypeId} {sz : Nat} {v : Value} {n : Nat} {xs : List Value} (h : w.ownsRow base e sz v n xs) : ∃ a c, v = .slice a n c := by
  rcases h.2 with ⟨rfl, rfl⟩ | ⟨g, cap, cur, rfl, _⟩
  · exact ⟨none, 0, rfl⟩
  · exact ⟨_, cap, rfl⟩

/-- The struct and its accesses were changed. -/
theorem GngP.change {w w' : World} {F : Nat → Prop} {b : Nat} {t t' : Tr} {W : Int → Bool} {R : Int → List Nat} {N : Nat} {v v' : Value} {wm rm : Nat} {rd : Int → Option Value}
    (h : GngP w F b t W R N v wm rm rd) (hw : Only (fun k => k = b ∨ v.ownBlock = some k) w w') (hb : Blk 131 w' b ⟨trC t' v' ++ [.map (some wm), .map (some rm)]⟩) (hr : w'.ownsRow 0 48 6 v' t'.ac.length (rows accC t'.ac))
    (hv : v'.ownBlock = v.ownBlock ∨ ∃ k, v'.ownBlock = some k ∧ w.heap.size ≤ k) : GngP w' (Up F w w') b t' W R N v' wm rm rd ∧ Only F w w' := by
  refine ⟨⟨hb, hr, h.wmap.keep (hw.block _ h.wmap.lt ?_), h.rmap.keep (hw.block _ h.rmap.lt ?_), h.nope, fun o u e => ownsRow_keep (h.lst o u e) (fun k e2 => hw.block _ (h.rd_ne e k e2).2.2.2.2 ?_), h.ne, h.apart, .inl h.fb, fun k e => ?_, .inl h.fw, .inl h.fr, fun o u k e e2 => .inl (h.frd o u k e e2)⟩, hw.mono fun k _ hk => ?_⟩
  · rintro (e | e)
    · exact h.wm_ne e
    · exact (h.v_ne _ e).2.1 rfl
  · rintro (e | e)
    · exact h.rm_ne e
    · exact (h.v_ne _ e).2.2 rfl
  · rintro (e3 | e3)
    · exact (h.rd_ne e k e2).1 e3
    · exact (h.rd_ne e k e2).2.2.2.1 e3
  · rcases hv with hv | ⟨k', hv, hk'⟩
    · exact .inl (h.fv k (hv ▸ e))
    · rw [e] at hv
      cases hv
      exact .inr ⟨hk', (hr.lt k e).2⟩
  · rcases hk with rfl | e
    · exact h.fb
    · exact h.fv k e

end Go.Proofs.Ytkidkhjpijjphaa.hs

/- A try on its way: readings are released. -/
namespace Go.Proofs.Ytkidkhjpijjphaa.hs
open Go Go.RowKit Go.Proofs.Ytkidkhjpijjphaa.base Go.Maps
set_option linter.unusedVariables false
set_option maxRecDepth 100000

theorem ownsRow_set {w : World} {base : Nat} {e : TypeId} {sz g n cap : Nat} {xs : List Value} (h : w.ownsRow base e sz (.slice (some ⟨g, 0, none⟩) n cap) n xs) (j : Nat) (hj : j < n * sz) (u : Value) : (w.setCell ⟨g, j, none⟩ u).ownsRow base e sz (.slice (some ⟨g, 0, none⟩) n cap) n (xs.set j u) := by
  obtain ⟨h1, h2⟩ := h
  refine ⟨by simpa using h1, ?_⟩
  rcases h2 with ⟨h2, _⟩ | ⟨g', cap', cur, h2, h3, h4, h5, h6, h7, h8⟩
  · cases h2
  · cases h2
    refine .inr ⟨g, cap, cur.setIfInBounds j u, rfl, h3, Blk.set (t := e) h4 j u, h5, h6, by simpa using h7, ?_⟩
    rw [Array.toList_setIfInBounds, List.take_set, h8]

def setRel (l : List Acc) (n : Nat) : List Acc := l.modify n fun a => { a with rel := true }
def relAt (l : List Acc) (ns : List Nat) : List Acc := ns.foldl setRel l
theorem setRel_len (l : List Acc) (n : Nat) : (setRel l n).length = l.length := by simp [setRel]
theorem relAt_len (ns : List Nat) : ∀ l : List Acc, (relAt l ns).length = l.length := by
  induction ns with
  | nil => intro l; rfl
  | cons n ns ih => intro l; unfold relAt; rw [List.foldl_cons]; exact (ih _).trans (setRel_len l n)
theorem relAt_snoc (l : List Acc) (ns : List Nat) (n : Nat) : relAt l (ns ++ [n]) = setRel (relAt l ns) n := by simp [relAt]
theorem relAt_append (l : List Acc) (ns ms : List Nat) : relAt l (ns ++ ms) = relAt (relAt l ns) ms := by simp [relAt]
theorem rows_setRel : ∀ (l : List Acc) (n : Nat), n < l.length → rows accC (setRel l n) = (rows accC l).set (n * 6 + 5) (.bool true)
  | [], _, h => by simp at h
  | a :: l, 0, _ => by
    simp [setRel, rows, accC]
  | a :: l, n + 1, h => by
    have ih := rows_setRel l n (by simpa using h)
    have e1 : setRel (a :: l) (n + 1) = a :: setRel l n := by simp [setRel]
    rw [e1, show rows accC (a :: setRel l n) = accC a ++ rows accC (setRel l n) from by simp [rows], ih, show rows accC (a :: l) = accC a ++ rows accC l from by simp [rows], List.set_append_right _ _ (by rw [accC_len]; omega)]
    congr 2
    rw [accC_len]
    omega

def updR (R : Int → List Nat) (o : Int) : Int → List Nat := fun p => if p = o then [] else R p

/-- A key is struck from the readings. -/
theorem GngP.strike {w w' : World} {F : Nat → Prop} {b : Nat} {t : Tr} {W : Int → Bool} {R : Int → List Nat} {N : Nat} {v : Value} {wm rm : Nat} {rd : Int → Option Value} (h : GngP w F b t W R N v wm rm rd) (o : Int)
    (hm : MapG Try.prog 3 (Value.int .i64) w' rm N (upd rd o none)) (g : w.grownBy w' (some rm)) : GngP w' F b t W (updR R o) N v wm rm (upd rd o none) ∧ Only F w w' := by
  refine ⟨⟨h.blk.grown g (by simp; exact fun e => h.rm_ne e.symm), ownsRow_keep h.row (fun k e => g.block k (h.v_lt k e) (by simp; exact (h.v_ne k e).2.2)), h.wmap.grown g (by simp; exact h.ne), hm, fun p hp => ?_, fun p u hp => ?_, h.ne, fun p q u x k hp hq => ?_, h.fb, h.fv, h.fw, h.fr, fun p u k hp => ?_⟩, Only.of g (fun k e _ => by cases e; exact h.fr)⟩
  · by_cases e : p = o
    · simp [updR, e]
    · rw [upd_other _ _ e] at hp
      simp only [updR, if_neg e]
      exact h.nope p hp
  · by_cases e : p = o
    · subst e
      rw [upd_same] at hp
      cases hp
    · rw [upd_other _ _ e] at hp
      simp only [updR, if_neg e]
      exact ownsRow_keep (h.lst p u hp) (fun k e2 => g.block k (h.rd_ne hp k e2).2.2.2.2 (by simp; exact (h.rd_ne hp k e2).2.2.1))
  · by_cases e : p = o
    · subst e
      rw [upd_same] at hp
      cases hp
    · by_cases e' : q = o
      · subst e'
        rw [upd_same] at hq
        cases hq
      · rw [upd_other _ _ e] at hp
        rw [upd_other _ _ e'] at hq
        exact h.apart p q u x k hp hq
  · by_cases e : p = o
    · subst e
      rw [upd_same] at hp
      cases hp
    · rw [upd_other _ _ e] at hp
      exact h.frd p u k hp

theorem zeroL (w : World) : (zeroValue 25).run Try.prog w = .ok (.slice none 0 0) w := by kernel_rfl

set_option maxHeartbeats 1000000 in
theorem release_any (w : World) (F : Nat → Prop) (b : Nat) (t : Tr) (W : Int → Bool) (R : Int → List Nat) (N : Nat) (o : Int) (ho : (Lit.int .i64 o).wf = true) (h : Gng w F b t W R N) (hR : ∀ n ∈ R o, n < t.ac.length) (hm : t.ac.length ≤ 1000000) (hl : (R o).length ≤ 1000000) :
    Calls Try.prog 74 #[.pointer (some ⟨b, 0, none⟩), .int .i64 o] w fun r w' => r = .returned (.tuple #[]) ∧ Hid (Gng w' F b { t with ac := relAt t.ac (R o) } W (updR R o) N) ∧ Hid (Only F w w') := by
  obtain ⟨v, wm, rm, rd, h0⟩ := h
  obtain ⟨u, hu, hrow⟩ : ∃ u, (rd o).getD (.slice none 0 0) = u ∧ w.ownsRow 0 3 1 u (R o).length ((R o).map natV) := by
    cases e : rd o with
    | none => exact ⟨_, rfl, by rw [h0.nope o e]; exact World.ownsRow_nil _ _ _ _⟩
    | some u => exact ⟨u, rfl, h0.lst o u e⟩
  obtain ⟨a, c, rfl⟩ := owns_slice hrow
  have H := Lib.hid h0
  have HO := Lib.hid ho
  have HR := Lib.hid hR
  have HU := Lib.hid hu
  clear hu
  have c10 : w.cell? ⟨b, 10, none⟩ = some (.map (some rm)) := h0.blk.cell 10
  by_cases hz : R o = []
  · have hz0 : (R o).length = 0 := by rw [hz]; rfl
    rw [hz0] at HU
    have HN := Lib.hid hz0.symm
    clear h0 hrow ho hR hl hz hz0
    go_enter Try.func74, Try.ntmps74
    go_wp2_with (first | (at_lookup; refine wpList_get_mapG rfl _ _ 129 rfl 3 25 kInt Try.underlying129 _ (zeroL _) (Value.int .i64) rm N rd rfl H.out.rmap o _ rfl (keyInt HO.out) (.slice a 0 c) HU.out ?_) | go_in)
    go_loopw [13] (fun iv wr => ∃ (k : Nat) (ac : List Acc), k ≤ 0 ∧ iv = .int .i64 k ∧ Hid (ac = relAt t.ac ((R o).take k)) ∧ Hid (GngP wr F b { t with ac := ac } W R N (v) wm rm rd) ∧ Hid (Only F w wr)) (fun iv _ => (0 - intOf iv).toNat)
    case atStart => exact ⟨0, t.ac, by omega, rfl, rfl, H, Only.refl _ _⟩
    case round =>
      obtain ⟨k, ac, hk, rfl, HA, HP, HW⟩ := hrel
      have c10 : wr.cell? ⟨b, 10, none⟩ = some (.map (some rm)) := HP.out.blk.cell 10
      obtain rfl : k = 0 := by omega
      have HF := Lib.hid (show ac = relAt t.ac (R o) by rw [HA.out, HN.out, List.take_length])
      go_wp2_with (first | (at_delete; refine wpList_del_mapG rfl _ _ 129 3 rfl 25 kInt (Value.int .i64) vint_inj Try.underlying129 rm N rd rfl HP.out.rmap o _ rfl (keyInt HO.out) ?_; intro u1 m1 g1) | go_in)
      go_end0
      obtain ⟨q1, q2⟩ := HP.out.strike o m1 g1
      rw [HF.out] at q1
      exact ⟨rfl, ⟨_, _, _, _, q1⟩, HW.out.trans q2⟩
  · have hr : ∃ u, rd o = some u := by
      cases e : rd o with
      | none => exact absurd (h0.nope o e) hz
      | some u => exact ⟨u, rfl⟩
    obtain ⟨u', hr⟩ := hr
    rw [hr] at HU
    obtain rfl : u' = .slice a (R o).length c := HU.out
    obtain ⟨n, hn⟩ : ∃ n, n = (R o).length := ⟨_, rfl⟩
    have hn0 : 0 < n := by rw [hn]; exact List.length_pos_iff.2 hz
    obtain ⟨g2, rfl⟩ : ∃ g2, a = some ⟨g2, 0, none⟩ := by
      rcases hrow.2 with ⟨_, e2⟩ | ⟨g2, cap, cur, e1, _⟩
      · omega
      · cases e1
        exact ⟨g2, rfl⟩
    obtain ⟨g3, cv, rfl⟩ : ∃ g3 cv, v = .slice (some ⟨g3, 0, none⟩) t.ac.length cv := by
      rcases h0.row.2 with ⟨_, e2⟩ | ⟨g3, cv, cur, e1, _⟩
      · have : 0 < t.ac.length := by
          obtain ⟨m, hm'⟩ := List.exists_mem_of_ne_nil _ hz
          have := hR m hm'
          omega
        omega
      · exact ⟨g3, cv, e1⟩
    rw [← hr] at HU
    have HRD := Lib.hid hr
    have HN := Lib.hid hn
    rw [← hn] at hl HU HRD
    clear h0 hrow ho hR hz hr hn
    go_enter Try.func74, Try.ntmps74
    go_wp2_with (first | (at_lookup; refine wpList_get_mapG rfl _ _ 129 rfl 3 25 kInt Try.underlying129 _ (zeroL _) (Value.int .i64) rm N rd rfl H.out.rmap o _ rfl (keyInt HO.out) (.slice (some ⟨g2, 0, none⟩) n c) HU.out ?_) | go_in)
    go_loopw [13] (fun iv wr => ∃ (k : Nat) (ac : List Acc), k ≤ n ∧ iv = .int .i64 k ∧ Hid (ac = relAt t.ac ((R o).take k)) ∧ Hid (GngP wr F b { t with ac := ac } W R N (.slice (some ⟨g3, 0, none⟩) t.ac.length cv) wm rm rd) ∧ Hid (Only F w wr)) (fun iv _ => (n - intOf iv).toNat)
    case atStart => exact ⟨0, t.ac, by omega, rfl, rfl, H, Only.refl _ _⟩
    case round =>
      obtain ⟨k, ac, hk, rfl, HA, HP, HW⟩ := hrel
      have c10 : wr.cell? ⟨b, 10, none⟩ = some (.map (some rm)) := HP.out.blk.cell 10
      by_cases hlt : k < n
      · obtain ⟨m, hm1, hm2⟩ : ∃ m, (R o)[k]? = some m ∧ m < t.ac.length := by
          have h1 : k < (R o).length := by rw [← HN.out]; exact hlt
          exact ⟨_, List.getElem?_eq_getElem h1, HR.out _ (List.getElem_mem h1)⟩
        have hlt' : (k : Int) < (n : Int) := by omega
        have hkn : (k : Int) < 1000000 := by omega
        have hm3 : (m : Int) < (t.ac.length : Int) := by omega
        have hm4 : (m : Int) < 1000000 := by omega
        have hm0 : (0 : Int) ≤ (m : Int) := by omega
        have hacl : ac.length = t.ac.length := by rw [HA.out]; exact relAt_len _ _
        have RW2 := Lib.hid (show wr.ownsRow 0 3 1 (.slice (some ⟨g2, 0, none⟩) n c) n ((R o).map natV) by
          have := HP.out.lst o _ HRD.out
          rwa [← HN.out] at this)
        have d0 : wr.cell? ⟨g2, k, none⟩ = some (.int .i64 m) := by
          have := RW2.out.cells (g := g2) rfl k (natV m) (by simp [hm1])
          rw [add_eq] at this
          simpa [natV] using this
        have c8 : wr.cell? ⟨b, 8, none⟩ = some (.slice (some ⟨g3, 0, none⟩) t.ac.length cv) := HP.out.blk.cell 8
        have ROW := Lib.hid HP.out.row
        have hrl : (rows accC ac).length = t.ac.length * 6 := by rw [rows_length accC_len, hacl]
        have d5 : ∃ u, wr.cell? ⟨g3, m * 6 + 5, none⟩ = some u := by
          have := HP.out.row.cells (g := g3) rfl (m * 6 + 5) _ (List.getElem?_eq_getElem (by rw [hrl]; omega))
          rw [add_eq] at this
          exact ⟨_, by simpa using this⟩
        obtain ⟨u5, d5⟩ := d5
        have f0 : wr.frozen? ⟨g3, m * 6 + 5, none⟩ = false := by
          obtain ⟨cs, hc⟩ := ownsRow_type HP.out.row (k := g3) rfl
          exact Blk.free (t := 48) hc _
        go_wp2
        go_roundw
        case rel =>
          have hsz : (wr.setCell ⟨g3, m * 6 + 5, none⟩ (.bool true)).heap.size = wr.heap.size := by simp [World.setCell]
          have gb1 : wr.grownBy (wr.setCell ⟨g3, m * 6 + 5, none⟩ (.bool true)) (some g3) := gb_setB (gb_refl _ _) _
          have hne := (HP.out.v_ne g3 rfl).1
          obtain ⟨q1, q2⟩ := HP.out.change (t' := { t with ac := setRel ac m }) (Only.of gb1 (fun k e _ => .inr e)) (HP.out.blk.grown gb1 (by simp; exact fun e => hne e.symm)) (by
            have h1 := HP.out.row
            have h2 : ac.length = (setRel ac m).length := (setRel_len _ _).symm
            show World.ownsRow _ 0 _ 6 _ (setRel ac m).length (rows accC (setRel ac m))
            rw [rows_setRel _ _ (by rw [hacl]; exact hm2), ← h2]
            have h3 : (Value.slice (some ⟨g3, 0, none⟩) t.ac.length cv) = .slice (some ⟨g3, 0, none⟩) ac.length cv := by rw [hacl]
            rw [h3] at h1 ⊢
            exact ownsRow_set h1 _ (by rw [hacl]; omega) _) (.inl rfl)
          refine ⟨k + 1, setRel ac m, by omega, by go_num, ?_, q1.keep (fun _ _ => rfl) (fun k' h' => h'.elim id (by rw [hsz]; omega)), HW.out.trans q2⟩
          rw [List.take_add_one, hm1, relAt_append, ← HA.out]
          rfl
        case measure => simp [intOf]; omega
      · obtain rfl : k = n := by omega
        have HF := Lib.hid (show ac = relAt t.ac (R o) by rw [HA.out, HN.out, List.take_length])
        go_wp2_with (first | (at_delete; refine wpList_del_mapG rfl _ _ 129 3 rfl 25 kInt (Value.int .i64) vint_inj Try.underlying129 rm N rd rfl HP.out.rmap o _ rfl (keyInt HO.out) ?_; intro u1 m1 g1) | go_in)
        go_end0
        obtain ⟨q1, q2⟩ := HP.out.strike o m1 g1
        rw [HF.out] at q1
        exact ⟨rfl, ⟨_, _, _, _, q1⟩, HW.out.trans q2⟩
end Go.Proofs.Ytkidkhjpijjphaa.hs

/- A try on its way: plain facts of what it wrote and read. -/
namespace Go.Proofs.Ytkidkhjpijjphaa.hs
open Go Go.RowKit Go.Proofs.Ytkidkhjpijjphaa.base Go.Maps
set_option linter.unusedVariables false
set_option maxRecDepth 100000

def readsF (l : List Acc) : Int → List Nat := fun o => readsAt o 0 l
theorem readsAt_append (o : Int) (m : List Acc) : ∀ (l : List Acc) (n : Nat), readsAt o n (l ++ m) = readsAt o n l ++ readsAt o (n + l.length) m
  | [], n => by simp [readsAt]
  | a :: l, n => by
    have ih := readsAt_append o m l (n + 1)
    rw [List.cons_append, readsAt, readsAt]
    have e : n + 1 + l.length = n + (a :: l).length := by simp; omega
    rw [e] at ih
    split
    · rw [ih, List.cons_append]
    · exact ih
theorem readsAt_lt (o : Int) : ∀ (l : List Acc) (n : Nat), ∀ m ∈ readsAt o n l, n ≤ m ∧ m < n + l.length
  | [], n, m, h => by simp [readsAt] at h
  | a :: l, n, m, h => by
    have ih := readsAt_lt o l (n + 1)
    rw [readsAt] at h
    split at h
    · rcases List.mem_cons.1 h with rfl | h
      · simp
      · have := ih m h
        simp
        omega
    · have := ih m h
      simp
      omega
theorem readsAt_len (o : Int) : ∀ (l : List Acc) (n : Nat), (readsAt o n l).length ≤ l.length
  | [], n => by simp [readsAt]
  | a :: l, n => by
    have ih := readsAt_len o l (n + 1)
    rw [readsAt]
    split
    · simp; omega
    · simp; omega

theorem wrote_read (l : List Acc) (pl ob va : Int) (own rel : Bool) (o : Int) : wrote (l ++ [⟨pl, 2, ob, va, own, rel⟩]) o = wrote l o := by simp [wrote]
theorem wrote_write (l : List Acc) (pl ob va : Int) (own rel : Bool) (o : Int) : wrote (l ++ [⟨pl, 3, ob, va, own, rel⟩]) o = (wrote l o || decide (ob = o)) := by simp [wrote]
theorem readsF_read (l : List Acc) (pl ob va : Int) (own : Bool) : readsF (l ++ [⟨pl, 2, ob, va, own, false⟩]) = fun o => if o = ob then readsF l ob ++ [l.length] else readsF l o := by
  funext o
  unfold readsF
  rw [readsAt_append]
  by_cases h : o = ob
  · subst h
    simp [readsAt]
  · have h' : ob ≠ o := fun e => h e.symm
    simp [readsAt, h, h']
theorem readsF_write (l : List Acc) (pl ob va : Int) (own rel : Bool) : readsF (l ++ [⟨pl, 3, ob, va, own, rel⟩]) = readsF l := by
  funext o
  unfold readsF
  rw [readsAt_append]
  simp [readsAt]

theorem setRel_cons (a : Acc) (l : List Acc) (n : Nat) : setRel (a :: l) (n + 1) = a :: setRel l n := by simp [setRel]
theorem relAt_cons (a : Acc) (ns : List Nat) : ∀ l : List Acc, relAt (a :: l) (ns.map (· + 1)) = a :: relAt l ns := by
  induction ns with
  | nil => intro l; rfl
  | cons n ns ih =>
    intro l
    have : relAt (a :: l) ((n :: ns).map (· + 1)) = relAt (setRel (a :: l) (n + 1)) (ns.map (· + 1)) := by simp [relAt]
    rw [this, setRel_cons, ih]
    simp [relAt]
theorem readsAt_shift (o : Int) : ∀ (l : List Acc) (n : Nat), readsAt o (n + 1) l = (readsAt o n l).map (· + 1)
  | [], n => rfl
  | a :: l, n => by
    rw [readsAt, readsAt, readsAt_shift o l (n + 1)]
    split <;> simp
/-- To release the readings that aren't yet: all of them. -/
theorem relAt_reads (o : Int) : ∀ l : List Acc, relAt l (readsAt o 0 l) = relAll l o
  | [] => rfl
  | a :: l => by
    have ih := relAt_reads o l
    rw [readsAt]
    split
    · next h =>
      have h1 : relAt (a :: l) (0 :: readsAt o (0 + 1) l) = relAt (setRel (a :: l) 0) (readsAt o (0 + 1) l) := by simp [relAt]
      rw [h1, readsAt_shift]
      have h2 : setRel (a :: l) 0 = { a with rel := true } :: l := by simp [setRel]
      rw [h2, relAt_cons, ih]
      simp [relAll, Acc.free, h]
    · next h =>
      rw [readsAt_shift, relAt_cons, ih]
      have : Acc.free o a = a := by
        unfold Acc.free
        split
        · next h2 =>
          have h3 : a.rel = true := by
            cases hr : a.rel with
            | true => rfl
            | false => exact absurd ⟨h2.1, h2.2, hr⟩ h
          cases a
          simp_all
        · rfl
      simp [relAll, this]
theorem readsF_free (l : List Acc) (ob : Int) : readsF (relAll l ob) = updR (readsF l) ob := by
  funext o
  unfold readsF updR
  have key : ∀ (l : List Acc) (n : Nat), readsAt o n (relAll l ob) = if o = ob then [] else readsAt o n l := by
    intro l
    induction l with
    | nil => intro n; simp [relAll, readsAt]
    | cons a l ih =>
      intro n
      have e : relAll (a :: l) ob = Acc.free ob a :: relAll l ob := rfl
      rw [e, readsAt, readsAt, ih]
      by_cases ho : o = ob
      · subst ho
        simp only [if_true]
        rw [if_neg]
        unfold Acc.free
        split
        · simp
        · next h => exact fun h2 => h ⟨h2.1, h2.2.1⟩
      · simp only [if_neg ho]
        have hf : (Acc.free ob a).k = a.k ∧ (Acc.free ob a).ob = a.ob := by unfold Acc.free; split <;> exact ⟨rfl, rfl⟩
        rw [hf.1, hf.2]
        by_cases hk : a.k = 2 ∧ a.ob = o
        · have : Acc.free ob a = a := by
            unfold Acc.free
            rw [if_neg]
            rintro ⟨_, h2⟩
            exact ho (hk.2.symm.trans h2)
          rw [this]
        · rw [if_neg (fun h => hk ⟨h.1, h.2.1⟩), if_neg (fun h => hk ⟨h.1, h.2.1⟩)]
  exact key l 0
theorem wrote_free (l : List Acc) (ob : Int) : wrote (relAll l ob) = wrote l := by
  funext o
  unfold wrote relAll
  rw [List.any_map]
  congr 1
  funext a
  simp only [Function.comp, Acc.free]
  split <;> rfl

section
variable {w w' : World} {F : Nat → Prop} {b : Nat} {t : Tr} {W : Int → Bool} {R : Int → List Nat} {N : Nat} {v : Value} {wm rm : Nat} {rd : Int → Option Value}
/-- A reading is noted. -/
theorem GngP.push (h : GngP w F b t W R N v wm rm rd) (o : Int) (u' : Value) (ns : List Nat)
    (hw : Only (fun k => k = rm ∨ ((rd o).getD (.slice none 0 0)).ownBlock = some k) w w') (hm : MapG Try.prog 3 (Value.int .i64) w' rm (N + 1) (upd rd o (some u'))) (hr : w'.ownsRow 0 3 1 u' ns.length (ns.map natV))
    (hv : u'.ownBlock = ((rd o).getD (.slice none 0 0)).ownBlock ∨ ∃ k, u'.ownBlock = some k ∧ w.heap.size ≤ k) :
    GngP w' (Up F w w') b t W (fun p => if p = o then ns else R p) (N + 1) v wm rm (upd rd o (some u')) ∧ Only F w w' := by
  have hold : ∀ k, ((rd o).getD (.slice none 0 0)).ownBlock = some k → ∃ u, rd o = some u ∧ u.ownBlock = some k := fun k e => by
    cases hu : rd o with
    | none => rw [hu] at e; cases e
    | some u => rw [hu] at e; exact ⟨u, rfl, e⟩
  have hF : ∀ k, u'.ownBlock = some k → Up F w w' k := fun k e => by
    rcases hv with hv | ⟨k', hv, hk'⟩
    · obtain ⟨u, h1, h2⟩ := hold k (hv ▸ e)
      exact .inl (h.frd o u k h1 h2)
    · rw [e] at hv
      cases hv
      exact .inr ⟨hk', (hr.lt k e).2⟩
  have noap : ∀ p x k, p ≠ o → rd p = some x → x.ownBlock = some k → u'.ownBlock ≠ some k := fun p x k hp hx hk e => by
    rcases hv with hv | ⟨k', hv, hk'⟩
    · obtain ⟨u, h1, h2⟩ := hold k (hv ▸ e)
      exact hp (h.apart p o x u k hx h1 hk h2)
    · rw [e] at hv
      cases hv
      have := (h.rd_ne hx k hk).2.2.2.2
      omega
  refine ⟨⟨h.blk.keep (hw.block _ h.blk.lt ?_), ownsRow_keep h.row (fun k e => hw.block k (h.v_lt k e) ?_), (h.wmap.keep (hw.block _ h.wmap.lt ?_)).more (Nat.le_succ _), hm, fun p hp => ?_, fun p u hp => ?_, h.ne, fun p q u x k hp hq hk hk' => ?_, .inl h.fb, fun k e => .inl (h.fv k e), .inl h.fw, .inl h.fr, fun p u k hp hk => ?_⟩, hw.mono fun k _ hk => ?_⟩
  · rintro (e | e)
    · exact h.rm_ne e.symm
    · obtain ⟨u, h1, h2⟩ := hold _ e
      exact (h.rd_ne h1 _ h2).1 rfl
  · rintro (e2 | e2)
    · exact (h.v_ne k e).2.2 e2
    · obtain ⟨u, h1, h2⟩ := hold _ e2
      exact (h.rd_ne h1 _ h2).2.2.2.1 e
  · rintro (e | e)
    · exact h.ne e
    · obtain ⟨u, h1, h2⟩ := hold _ e
      exact (h.rd_ne h1 _ h2).2.1 rfl
  · by_cases e : p = o
    · subst e
      rw [upd_same] at hp
      cases hp
    · rw [upd_other _ _ e] at hp
      simp only [if_neg e]
      exact h.nope p hp
  · by_cases e : p = o
    · subst e
      rw [upd_same] at hp
      cases hp
      simp only [if_true]
      exact hr
    · rw [upd_other _ _ e] at hp
      simp only [if_neg e]
      refine ownsRow_keep (h.lst p u hp) (fun k e2 => hw.block k (h.rd_ne hp k e2).2.2.2.2 ?_)
      rintro (e3 | e3)
      · exact (h.rd_ne hp k e2).2.2.1 e3
      · obtain ⟨u2, h1, h2⟩ := hold _ e3
        exact e (h.apart p o u u2 k hp h1 e2 h2)
  · by_cases e : p = o
    · subst e
      rw [upd_same] at hp
      cases hp
      by_cases e' : q = p
      · exact e'.symm
      · rw [upd_other _ _ e'] at hq
        exact absurd hk (noap q x k e' hq hk')
    · rw [upd_other _ _ e] at hp
      by_cases e' : q = o
      · subst e'
        rw [upd_same] at hq
        cases hq
        exact absurd hk' (noap p u k e hp hk)
      · rw [upd_other _ _ e'] at hq
        exact h.apart p q u x k hp hq hk hk'
  · by_cases e : p = o
    · subst e
      rw [upd_same] at hp
      cases hp
      exact hF k hk
    · rw [upd_other _ _ e] at hp
      exact .inl (h.frd p u k hp hk)
  · rcases hk with rfl | e
    · exact h.fr
    · obtain ⟨u, h1, h2⟩ := hold _ e
      exact h.frd o u k h1 h2

/-- It wrote an object. -/
theorem GngP.wrotes (h : GngP w F b t W R N v wm rm rd) (o : Int) (hm : MapG Try.prog 3 (Value.int .i64) w' wm (N + 1) (upd (wroteV W) o (some (.bool true)))) (g : w.grownBy w' (some wm)) :
    GngP w' F b t (fun p => W p || decide (o = p)) R (N + 1) v wm rm rd ∧ Only F w w' := by
  refine ⟨⟨h.blk.grown g (by simp; exact fun e => h.wm_ne e.symm), ownsRow_keep h.row (fun k e => g.block k (h.v_lt k e) (by simp; exact (h.v_ne k e).2.1)), hm.congr (fun x _ _ => ?_), (h.rmap.grown g (by simp; exact fun e => h.ne e.symm)).more (Nat.le_succ _), h.nope, fun p u hp => ownsRow_keep (h.lst p u hp) (fun k e2 => g.block k (h.rd_ne hp k e2).2.2.2.2 (by simp; exact (h.rd_ne hp k e2).2.1)), h.ne, h.apart, h.fb, h.fv, h.fw, h.fr, h.frd⟩, Only.of g (fun k e _ => by cases e; exact h.fw)⟩
  by_cases e : x = o
  · subst e
    rw [upd_same]
    simp [wroteV]
  · rw [upd_other _ _ e]
    have : (o = x) = False := by simp; exact fun h => e h.symm
    simp [wroteV, this]
end
end Go.Proofs.Ytkidkhjpijjphaa.hs
