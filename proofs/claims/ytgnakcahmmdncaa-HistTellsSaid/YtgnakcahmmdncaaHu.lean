/- The tries of one transaction: their numbers; and all transactions' together. Of no program, and of no memory. -/
import Derived.Test.YtgnakcahmmdncaaHp
namespace Go.Proofs.Ytgnakcahmmdncaa.base
open Go

/-- Where a transaction's tries began. -/
def ofB (e : Evs) (n : Nat) (th tx : Int) : List Nat := (begins e n).filter fun b => (e b).th == th && (e b).tx == tx

theorem ofB_nums (e : Evs) (th tx : Int) : ∀ n, right e n = true → n ≤ 1000000 → cnt e n th tx = ((ofB e n th tx).length : Int) ∧ ∀ (m b : Nat), (ofB e n th tx)[m]? = some b → (e b).at_ = (m : Int) + 1
  | 0, _, _ => ⟨rfl, fun m b h => by simp [ofB, begins] at h⟩
  | n + 1, hr, hn => by
    rw [right, Bool.and_eq_true] at hr
    obtain ⟨ih1, ih2⟩ := ofB_nums e th tx n hr.1 (by omega)
    have hmay := hr.2
    by_cases h : (e n).k = 1 ∧ (e n).th = th ∧ (e n).tx = tx
    · have hb : ofB e (n + 1) th tx = ofB e n th tx ++ [n] := by
        unfold ofB begins
        rw [List.range_succ, List.filter_append, List.filter_append]
        simp [h.1, h.2.1, h.2.2]
      have hlen : (ofB e n th tx).length ≤ n := by
        unfold ofB
        exact Nat.le_trans (List.length_filter_le _ _) (begins_n e n)
      have hat : (e n).at_ = ((ofB e n th tx).length : Int) + 1 := by
        unfold may at hmay
        cases ho : opn e n (e n).th with
        | some c =>
          rw [ho] at hmay
          simp [h.1] at hmay
        | none =>
          rw [ho] at hmay
          simp [h.1] at hmay
          rw [hmay, h.2.1, h.2.2, ih1]
          exact IntWalk.i64_in _ (by omega)
      refine ⟨by rw [cnt, if_pos h, hat, hb, List.length_append]; simp, fun m b hm => ?_⟩
      rw [hb] at hm
      by_cases hlt : m < (ofB e n th tx).length
      · rw [List.getElem?_append_left hlt] at hm
        exact ih2 m b hm
      · rw [List.getElem?_append_right (by omega)] at hm
        have h0 : m - (ofB e n th tx).length = 0 := by
          have := (List.getElem?_eq_some_iff.1 hm).1
          simp at this
          omega
        rw [h0] at hm
        simp at hm
        subst hm
        rw [hat]
        omega
    · have hb : ofB e (n + 1) th tx = ofB e n th tx := by
        unfold ofB begins
        rw [List.range_succ, List.filter_append, List.filter_append]
        by_cases h1 : (e n).k = 1
        · have : ((e n).th == th && (e n).tx == tx) = false := by
            rw [Bool.eq_false_iff]
            intro h2
            simp at h2
            exact h ⟨h1, h2⟩
          simp [h1, this]
        · simp [h1]
      rw [cnt, if_neg h, hb]
      exact ⟨ih1, ih2⟩

/-- A transaction's tries: in their order, numbered from 1 on. -/
theorem of_nums (e : Evs) {n : Nat} (hr : right e n = true) (hn : n ≤ 1000000) (th tx : Int) {m : Nat} {t : Tr} (h : ((tries e n).filter fun t => t.th == th && t.tx == tx)[m]? = some t) : t.th = th ∧ t.tx = tx ∧ t.at_ = (m : Int) + 1 := by
  have hm := List.mem_of_getElem? h
  rw [List.mem_filter] at hm
  have h2 := hm.2
  simp at h2
  refine ⟨h2.1, h2.2, ?_⟩
  unfold tries at h
  rw [List.filter_map, List.getElem?_map, Option.map_eq_some_iff] at h
  obtain ⟨b, hb, rfl⟩ := h
  rw [(trAt_fix e b n).2.2.1]
  refine (ofB_nums e th tx n hr hn).2 m b ?_
  unfold ofB
  rw [← hb]
  congr 2
  funext c
  show _ = ((trAt e c n).th == th && (trAt e c n).tx == tx)
  rw [(trAt_fix e c n).1, (trAt_fix e c n).2.1]

theorem of_sorted (e : Evs) (n : Nat) (p : Tr → Bool) : ((tries e n).filter p).Pairwise (fun x y => x.b < y.b) := (tries_sorted e n).filter _

def pr (t : Tr) : Int × Int := (t.th, t.tx)
/-- How many of all are of a transaction of the first i. -/
def cov (T : List Tr) (i : Nat) : Nat := (T.filter fun t => decide (pr t ∈ (T.take i).map pr)).length

theorem cov_zero (T : List Tr) : cov T 0 = 0 := by simp [cov]
theorem cov_le (T : List Tr) (i : Nat) : cov T i ≤ T.length := List.length_filter_le _ _
theorem cov_all (T : List Tr) : cov T T.length = T.length := by
  unfold cov
  rw [List.filter_eq_self.2]
  intro t ht
  simp only [List.take_length, decide_eq_true_eq]
  exact List.mem_map_of_mem ht
theorem take_one (T : List Tr) {i : Nat} {t : Tr} (h : T[i]? = some t) : T.take (i + 1) = T.take i ++ [t] := by
  rw [List.take_add_one, h]
  rfl
theorem cov_old (T : List Tr) {i : Nat} {t : Tr} (h : T[i]? = some t) (hp : pr t ∈ (T.take i).map pr) : cov T (i + 1) = cov T i := by
  unfold cov
  congr 1
  refine List.filter_congr fun u _ => ?_
  rw [take_one T h, List.map_append, decide_eq_decide, List.mem_append]
  constructor
  · rintro (h1 | h1)
    · exact h1
    · simp at h1
      rw [h1]
      exact hp
  · exact .inl
theorem filter_or {α : Type} (l : List α) (p q : α → Bool) (h : ∀ x, p x = true → q x = false) : (l.filter fun x => p x || q x).length = (l.filter p).length + (l.filter q).length := by
  induction l with
  | nil => rfl
  | cons x l ih =>
    have := h x
    cases hp : p x <;> cases hq : q x <;> simp_all <;> omega
theorem cov_new (T : List Tr) {i : Nat} {t : Tr} (h : T[i]? = some t) (hp : pr t ∉ (T.take i).map pr) : cov T (i + 1) = cov T i + (T.filter fun u => u.th == t.th && u.tx == t.tx).length := by
  unfold cov
  rw [← filter_or]
  · congr 1
    refine List.filter_congr fun u _ => ?_
    rw [take_one T h, List.map_append, Bool.eq_iff_iff]
    simp [pr]
  · intro u hu
    rw [decide_eq_true_eq] at hu
    rw [Bool.eq_false_iff]
    intro h2
    simp at h2
    refine hp ?_
    have : pr u = pr t := by unfold pr; rw [h2.1, h2.2]
    rw [← this]
    exact hu

/-- What was seen. -/
def seenF (T : List Tr) (i : Nat) : Int × Int → Option Value := fun x => if x ∈ (T.take i).map pr then some (.bool true) else none
theorem seen_old (T : List Tr) {i : Nat} {t : Tr} (h : T[i]? = some t) (hp : pr t ∈ (T.take i).map pr) : seenF T (i + 1) = seenF T i := by
  funext x
  unfold seenF
  rw [take_one T h, List.map_append]
  by_cases h1 : x ∈ (T.take i).map pr
  · rw [if_pos (List.mem_append_left _ h1), if_pos h1]
  · rw [if_neg h1, if_neg]
    intro h2
    rcases List.mem_append.1 h2 with h2 | h2
    · exact h1 h2
    · simp at h2
      exact h1 (h2 ▸ hp)
theorem seen_new (T : List Tr) {i : Nat} {t : Tr} (h : T[i]? = some t) (x : Int × Int) : seenF T (i + 1) x = if x = pr t then some (.bool true) else seenF T i x := by
  unfold seenF
  rw [take_one T h, List.map_append]
  by_cases h2 : x = pr t
  · rw [if_pos h2, if_pos (by simp [h2])]
  · rw [if_neg h2]
    by_cases h1 : x ∈ (T.take i).map pr
    · rw [if_pos h1, if_pos (List.mem_append_left _ h1)]
    · rw [if_neg h1, if_neg (by rintro h3; rcases List.mem_append.1 h3 with h3 | h3; exact h1 h3; simp at h3; exact h2 h3)]
end Go.Proofs.Ytgnakcahmmdncaa.base
