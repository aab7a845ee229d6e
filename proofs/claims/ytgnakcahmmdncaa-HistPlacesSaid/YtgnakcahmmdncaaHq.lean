/- Where a try's accesses stand in the trace, and how many there are. Of no program, and of no memory. -/
import Derived.Test.YtgnakcahmmdncaaHp
namespace Go.Proofs.Ytgnakcahmmdncaa.base
open Go

/-- An access of the try that began at b is an event ahead of place i. -/
def AccOk (e : Evs) (b i : Nat) (t : Tr) (a : Acc) : Prop := ∃ p : Nat, a.pl = (p : Int) ∧ b < p ∧ p < i ∧ (e p).k = a.k ∧ (e p).ob = a.ob ∧ (e p).va = a.va ∧ (e p).th = (e b).th ∧ (0 ≤ t.en → a.pl < t.en)
def AcsOk (e : Evs) (b i : Nat) (t : Tr) : Prop := (∀ a ∈ t.ac, AccOk e b i t a) ∧ t.ac.Pairwise (fun x y => x.pl < y.pl) ∧ (t.en = -1 ∨ ∃ q : Nat, t.en = (q : Int) ∧ q < i)

theorem AcsOk.step {e : Evs} {b i : Nat} {t : Tr} (h : AcsOk e b i t) (hb : b < i) (hth : (e i).th = (e b).th) (hen : t.en < 0) : AcsOk e b (i + 1) (stepT t i (e i)) := by
  obtain ⟨h1, h2, h3⟩ := h
  have hen1 : t.en = -1 := by
    rcases h3 with h3 | ⟨q, h3, _⟩
    · exact h3
    · omega
  have old : ∀ (t' : Tr) (a : Acc), a ∈ t.ac → t'.en = t.en → AccOk e b (i + 1) t' a := by
    intro t' a ha ht
    obtain ⟨p, p1, p2, p3, p4, p5, p6, p7, p8⟩ := h1 a ha
    exact ⟨p, p1, p2, by omega, p4, p5, p6, p7, fun h0 => by omega⟩
  have new : ∀ (a : Acc) (t' : Tr), t'.ac = t.ac ++ [a] → t'.en = t.en → a.pl = i → a.k = (e i).k → a.ob = (e i).ob → a.va = (e i).va → AcsOk e b (i + 1) t' := by
    intro a t' ht he a1 a2 a3 a4
    unfold AcsOk
    rw [ht, he]
    refine ⟨fun x hx => ?_, ?_, .inl hen1⟩
    · rcases List.mem_append.1 hx with hx | hx
      · exact old t' x hx he
      · have hx : x = a := by simpa using hx
        subst hx
        exact ⟨i, a1, hb, by omega, a2.symm, a3.symm, a4.symm, hth, fun h0 => by omega⟩
    · refine List.pairwise_append.2 ⟨h2, by simp, fun x hx y hy => ?_⟩
      have hy : y = a := by simpa using hy
      subst hy
      obtain ⟨p, p1, _, p3, _⟩ := h1 x hx
      omega
  have ends : ∀ (t' : Tr), t'.ac = t.ac → t'.en = i → AcsOk e b (i + 1) t' := by
    intro t' ht he
    unfold AcsOk
    rw [ht, he]
    refine ⟨fun a ha => ?_, h2, .inr ⟨i, rfl, by omega⟩⟩
    obtain ⟨p, p1, p2, p3, p4, p5, p6, p7, _⟩ := h1 a ha
    exact ⟨p, p1, p2, by omega, p4, p5, p6, p7, fun _ => by omega⟩
  unfold stepT
  by_cases k2 : (e i).k = 2
  · rw [if_pos k2]
    exact new _ _ rfl rfl rfl k2.symm rfl rfl
  rw [if_neg k2]
  by_cases k3 : (e i).k = 3
  · rw [if_pos k3]
    exact new _ _ rfl rfl rfl k3.symm rfl rfl
  rw [if_neg k3]
  by_cases k4 : (e i).k = 4
  · rw [if_pos k4]
    refine ⟨fun a ha => ?_, ?_, .inl hen1⟩
    · obtain ⟨a', ha', rfl⟩ := List.mem_map.1 (show a ∈ t.ac.map (Acc.free (e i).ob) from ha)
      have := old t a' ha' rfl
      unfold Acc.free
      split
      · obtain ⟨p, p1, p2, p3, p4, p5, p6, p7, p8⟩ := this
        exact ⟨p, p1, p2, p3, p4, p5, p6, p7, p8⟩
      · exact this
    · show (t.ac.map (Acc.free (e i).ob)).Pairwise _
      rw [List.pairwise_map]
      refine h2.imp fun {x y} h => ?_
      have hf : ∀ z : Acc, (Acc.free (e i).ob z).pl = z.pl := fun z => by unfold Acc.free; split <;> rfl
      rw [hf, hf]
      exact h
  rw [if_neg k4]
  by_cases k5 : (e i).k = 5
  · rw [if_pos k5]
    exact ends _ rfl rfl
  rw [if_neg k5]
  by_cases k6 : (e i).k = 6
  · rw [if_pos k6]
    exact ends _ rfl rfl
  rw [if_neg k6]
  exact ⟨fun a ha => old t a ha rfl, h2, .inl hen1⟩

theorem acs_ok (e : Evs) (b : Nat) : ∀ i, AcsOk e b i (trAt e b i)
  | 0 => ⟨fun a ha => absurd ha (by simp [trAt, init]), List.Pairwise.nil, .inl rfl⟩
  | i + 1 => by
    have ih := acs_ok e b i
    rw [trAt]
    split
    · next h => exact ih.step h.1 h.2.1 h.2.2
    · refine ⟨fun a ha => ?_, ih.2.1, ?_⟩
      · obtain ⟨p, p1, p2, p3, p4⟩ := ih.1 a ha
        exact ⟨p, p1, p2, by omega, p4⟩
      · rcases ih.2.2 with h | ⟨q, h1, h2⟩
        · exact .inl h
        · exact .inr ⟨q, h1, by omega⟩

/-- How many readings and writings stand ahead of a place. -/
def rws (e : Evs) : Nat → Nat
  | 0 => 0
  | i + 1 => rws e i + (if (e i).k = 2 ∨ (e i).k = 3 then 1 else 0)
theorem rws_le (e : Evs) : ∀ n, rws e n ≤ n
  | 0 => Nat.le_refl _
  | n + 1 => by have := rws_le e n; unfold rws; split <;> omega

theorem sum_same {l : List Nat} {f g : Nat → Nat} (h : ∀ b ∈ l, g b = f b) : (l.map g).sum = (l.map f).sum := by
  rw [List.map_congr_left h]
theorem sum_one {l : List Nat} {f g : Nat → Nat} {c : Nat} (nd : l.Nodup) (hc : c ∈ l) (h : ∀ b ∈ l, g b = f b + (if b = c then 1 else 0)) : (l.map g).sum = (l.map f).sum + 1 := by
  induction l with
  | nil => cases hc
  | cons x l ih =>
    rw [List.map_cons, List.map_cons, List.sum_cons, List.sum_cons, h x (by simp)]
    have nd2 := List.nodup_cons.1 nd
    by_cases hx : x = c
    · subst hx
      rw [if_pos rfl, sum_same (l := l) (f := f) (g := g) (fun b hb => by rw [h b (by simp [hb]), if_neg (fun e1 : b = x => nd2.1 (e1 ▸ hb))]; rfl)]
      omega
    · rw [if_neg hx, ih nd2.2 ((List.mem_cons.1 hc).resolve_left (fun e1 => hx e1.symm)) (fun b hb => h b (by simp [hb]))]
      omega

theorem ac_step (t : Tr) (i : Nat) (e : Ev) : (stepT t i e).ac.length = t.ac.length + (if e.k = 2 ∨ e.k = 3 then 1 else 0) := by
  by_cases k23 : e.k = 2 ∨ e.k = 3
  · rw [if_pos k23]
    unfold stepT
    rcases k23 with k | k <;> simp [k]
  · rw [if_neg k23]
    unfold stepT
    rw [if_neg (fun h => k23 (.inl h)), if_neg (fun h => k23 (.inr h))]
    split
    · simp [relAll]
    · split
      · rfl
      · split <;> rfl

/-- The accesses of all tries: as many as readings and writings. -/
theorem acs_sum (e : Evs) : ∀ n, right e n = true → ((begins e n).map fun b => (trAt e b n).ac.length).sum = rws e n
  | 0, _ => rfl
  | n + 1, hr => by
    rw [right, Bool.and_eq_true] at hr
    have ih := acs_sum e n hr.1
    have hmay := hr.2
    have hb : begins e (n + 1) = begins e n ++ (if (e n).k = 1 then [n] else []) := by
      unfold begins
      rw [List.range_succ, List.filter_append]
      by_cases h1 : (e n).k = 1 <;> simp [h1]
    have hnew : ((if (e n).k = 1 then [n] else ([] : List Nat)).map fun b => (trAt e b (n + 1)).ac.length).sum = 0 := by
      split
      · have := trAt_init e n (n + 1) (Nat.le_refl _)
        simp [this, init]
      · rfl
    rw [hb, List.map_append, List.sum_append_nat, hnew, Nat.add_zero, rws]
    by_cases h23 : (e n).k = 2 ∨ (e n).k = 3
    · rw [if_pos h23]
      obtain ⟨c, ho⟩ : ∃ c, opn e n (e n).th = some c := by
        cases ho : opn e n (e n).th with
        | some c => exact ⟨c, rfl⟩
        | none =>
          unfold may at hmay
          rw [ho] at hmay
          simp at hmay
          omega
      obtain ⟨c1, c2, c3, c4⟩ := opn_spec e _ _ _ ho
      rw [sum_one (f := fun b => (trAt e b n).ac.length) (begins_nodup e n) ((begins_mem e n c).2 ⟨c1, c2⟩), ih]
      intro b hbm
      obtain ⟨b1, b2⟩ := (begins_mem e n b).1 hbm
      show (trAt e b (n + 1)).ac.length = (trAt e b n).ac.length + _
      by_cases hbc : b = c
      · subst hbc
        rw [trAt_step e ho, ac_step, if_pos h23, if_pos rfl]
      · rw [if_neg hbc, trAt, if_neg]
        · rfl
        · rintro ⟨_, x2, x3⟩
          have := opn_of e hr.1 b1 b2 x3
          rw [← x2, ho] at this
          cases this
          exact hbc rfl
    · rw [if_neg h23, sum_same (f := fun b => (trAt e b n).ac.length), ih]
      · rfl
      · intro b _
        show (trAt e b (n + 1)).ac.length = (trAt e b n).ac.length
        rw [trAt]
        split
        · rw [ac_step, if_neg h23]
          rfl
        · rfl

theorem tries_sum (e : Evs) {n : Nat} (hr : right e n = true) : ((tries e n).map fun t => t.ac.length).sum = rws e n := by
  rw [← acs_sum e n hr]
  unfold tries
  rw [List.map_map]
  rfl

/-- How many accesses the first k have. -/
def sumTo (l : List Tr) : Nat → Nat
  | 0 => 0
  | k + 1 => sumTo l k + (match l[k]? with | some t => t.ac.length | none => 0)
theorem sumTo_take (l : List Tr) : ∀ k, sumTo l k = ((l.take k).map fun t => t.ac.length).sum
  | 0 => rfl
  | k + 1 => by
    rw [sumTo, sumTo_take l k, List.take_add_one, List.map_append, List.sum_append_nat]
    cases l[k]? <;> simp
theorem sumTo_all (l : List Tr) {k : Nat} (h : l.length ≤ k) : sumTo l k = (l.map fun t => t.ac.length).sum := by
  rw [sumTo_take, List.take_of_length_le h]
theorem sumTo_mono (l : List Tr) (k : Nat) : ∀ j, sumTo l k ≤ sumTo l (k + j)
  | 0 => Nat.le_refl _
  | j + 1 => by have := sumTo_mono l k j; rw [← Nat.add_assoc, sumTo]; omega

/-- What a try of a right trace is. -/
theorem try_is (e : Evs) {n i : Nat} {t : Tr} (hr : right e n = true) (h : (tries e n)[i]? = some t) : ∃ b : Nat, t.b = (b : Int) ∧ b < n ∧ (e b).k = 1 ∧ t.th = (e b).th ∧ AcsOk e b n t ∧ (∀ q : Nat, t.en = (q : Int) → q < n ∧ (t.co = true ↔ (e q).k = 5)) := by
  unfold tries at h
  rw [List.getElem?_map, Option.map_eq_some_iff] at h
  obtain ⟨b, hb, rfl⟩ := h
  obtain ⟨h1, h2⟩ := (begins_mem e n b).1 (List.mem_of_getElem? hb)
  have hf := trAt_fix e b n
  refine ⟨b, hf.2.2.2.2, h1, h2, hf.1, acs_ok e b n, fun q hq => ?_⟩
  obtain ⟨i, i1, i2, i3, i4, i5⟩ := en_at e h2 n hr h1 (by omega)
  have : i = q := by omega
  subst this
  exact ⟨i1, i5⟩
end Go.Proofs.Ytgnakcahmmdncaa.base
