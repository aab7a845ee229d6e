/- The document's own answers of chapter 17, in plain numbers, and that they are those of XHm. Of no program, and of no memory. -/
import Derived.Test.YtdohepenmejcaaaHm
namespace Go.Proofs.Ytdohepenmejcaaa.base
open Go

/-- The place of a thread's last EvBegin ahead of a place; -1: none. -/
def lastI (e : Evs) : Nat → Int → Int
  | 0, _ => -1
  | i + 1, th => if (e i).k = 1 ∧ (e i).th = th then (i : Int) else lastI e i th
/-- No end of the thread of place b's event stands between b and a place. -/
def openB (e : Evs) (b : Nat) : Nat → Bool
  | 0 => true
  | i + 1 => openB e b i && !(decide (b < i) && (decide ((e i).th = (e b).th) && (decide ((e i).k = 5) || decide ((e i).k = 6))))

theorem lastI_lt (e : Evs) : ∀ i th, -1 ≤ lastI e i th ∧ lastI e i th < i
  | 0, th => ⟨by simp [lastI], by simp [lastI]⟩
  | i + 1, th => by
    have := lastI_lt e i th
    unfold lastI
    split <;> omega
theorem openB_self (e : Evs) (b : Nat) : ∀ i, i ≤ b + 1 → openB e b i = true
  | 0, _ => rfl
  | i + 1, h => by
    rw [openB, openB_self e b i (by omega)]
    simp
    omega

theorem opn_ref (e : Evs) : ∀ i th, opn e i th = if 0 ≤ lastI e i th ∧ openB e (lastI e i th).toNat i = true then some (lastI e i th).toNat else none
  | 0, th => by simp [opn, lastI]
  | i + 1, th => by
    have ih := opn_ref e i th
    have hl := lastI_lt e i th
    have hspec : 0 ≤ lastI e i th → (e (lastI e i th).toNat).th = th := by
      clear ih hl
      induction i with
      | zero => simp [lastI]
      | succ i ih =>
        unfold lastI
        split
        · next h => intro _; simpa using h.2
        · exact ih
    have hself := openB_self e i (i + 1) (Nat.le_refl _)
    unfold opn
    by_cases hth : (e i).th = th
    · rw [if_pos hth]
      by_cases h1 : (e i).k = 1
      · have hl1 : lastI e (i + 1) th = (i : Int) := by rw [lastI, if_pos ⟨h1, hth⟩]
        rw [hl1, if_pos h1, Int.toNat_natCast, if_pos ⟨by omega, hself⟩]
      · have hl1 : lastI e (i + 1) th = lastI e i th := by rw [lastI, if_neg (fun h => h1 h.1)]
        rw [hl1, if_neg h1]
        by_cases h56 : (e i).k = 5 ∨ (e i).k = 6
        · rw [if_pos h56]
          by_cases h0 : 0 ≤ lastI e i th
          · rw [if_neg]
            rintro ⟨_, h2⟩
            rw [openB] at h2
            have h3 := hspec h0
            have h4 : (lastI e i th).toNat < i := by omega
            rcases h56 with h56 | h56 <;> simp [h4, h3, hth, h56] at h2
          · rw [if_neg (fun h => h0 h.1)]
        · rw [if_neg h56, ih]
          have : openB e (lastI e i th).toNat (i + 1) = openB e (lastI e i th).toNat i := by
            rw [openB]
            have h5 : ¬ (e i).k = 5 := fun h => h56 (.inl h)
            have h6 : ¬ (e i).k = 6 := fun h => h56 (.inr h)
            simp [h5, h6]
          rw [this]
    · have hl1 : lastI e (i + 1) th = lastI e i th := by rw [lastI, if_neg (fun h => hth h.2)]
      rw [hl1, if_neg hth, ih]
      by_cases h0 : 0 ≤ lastI e i th
      · have : openB e (lastI e i th).toNat (i + 1) = openB e (lastI e i th).toNat i := by
          rw [openB, hspec h0]
          simp [hth]
        rw [this]
      · rw [if_neg (fun h => h0 h.1), if_neg (fun h => h0 h.1)]

/-- Is an event of another one's attempt? -/
def ownE (b e : Ev) : Bool := decide (b.th = e.th) && decide (b.tx = e.tx) && decide (b.at_ = e.at_)

/-- The document's try of an EvBegin, ahead of a place. -/
def docAt (e : Evs) (b : Nat) : Nat → Tr
  | 0 => init b (e b)
  | i + 1 => if b < i ∧ ownE (e b) (e i) = true ∧ (docAt e b i).en < 0 then stepT (docAt e b i) i (e i) else docAt e b i

/-- In a right trace a try that has no end goes on. -/
theorem opn_of (e : Evs) {n b : Nat} (hr : right e n = true) (hb : b < n) (hk : (e b).k = 1) (hen : (trAt e b n).en < 0) : opn e n (e b).th = some b := by
  rcases begun_all e n hr b hb hk with h | h
  · have := ended_spec e n b h
    omega
  · exact h

theorem may_own (e : Evs) {i b : Nat} (h : may e i = true) (ho : opn e i (e i).th = some b) : ownE (e b) (e i) = true ∧ 2 ≤ (e i).k ∧ (e i).k ≤ 6 := by
  unfold may at h
  rw [ho] at h
  have := (opn_spec e _ _ _ ho).2.2.1
  simp at h
  unfold ownE
  simp [this, h.1.2, h.2]
  omega

theorem docAt_eq (e : Evs) (b : Nat) (hk : (e b).k = 1) : ∀ n, right e n = true → docAt e b n = trAt e b n
  | 0, _ => rfl
  | n + 1, hr => by
    have hr0 := hr
    rw [right, Bool.and_eq_true] at hr
    have ih := docAt_eq e b hk n hr.1
    rw [docAt, trAt, ih]
    by_cases hb : b < n
    · by_cases hen : (trAt e b n).en < 0
      · have ho := opn_of e hr.1 hb hk hen
        by_cases hth : (e n).th = (e b).th
        · rw [← hth] at ho
          rw [if_pos ⟨hb, (may_own e hr.2 ho).1, hen⟩, if_pos ⟨hb, hth, hen⟩]
        · rw [if_neg, if_neg (fun h => hth h.2.1)]
          rintro ⟨_, h, _⟩
          unfold ownE at h
          simp at h
          exact hth h.1.1.symm
      · rw [if_neg (fun h => hen h.2.2), if_neg (fun h => hen h.2.2)]
    · rw [if_neg (fun h => hb h.1), if_neg (fun h => hb h.1)]

theorem co_en (e : Evs) (b : Nat) : ∀ n, (trAt e b n).co = true → 0 ≤ (trAt e b n).en
  | 0, h => by simp [trAt, init] at h
  | n + 1, h => by
    rw [trAt] at h ⊢
    split
    · next hc =>
      rw [if_pos hc] at h
      rw [stepT_en]
      split
      · omega
      · next h56 =>
        have : (stepT (trAt e b n) n (e n)).co = (trAt e b n).co := by
          unfold stepT
          repeat' split
          all_goals first | rfl | (exfalso; apply h56; simp [*])
        rw [this] at h
        have := co_en e b n h
        omega
    · next hc =>
      rw [if_neg hc] at h
      exact co_en e b n h

/-- Where a try ended: an end of its thread, at which it was the one that went on. -/
theorem en_at (e : Evs) {b : Nat} (hk : (e b).k = 1) : ∀ n, right e n = true → b < n → 0 ≤ (trAt e b n).en → ∃ i, i < n ∧ (trAt e b n).en = (i : Int) ∧ opn e i (e i).th = some b ∧ ((e i).k = 5 ∨ (e i).k = 6) ∧ ((trAt e b n).co = true ↔ (e i).k = 5)
  | 0, _, h, _ => by omega
  | n + 1, hr, hb, h => by
    rw [right, Bool.and_eq_true] at hr
    by_cases hbn : b = n
    · subst hbn
      rw [trAt_init _ _ _ (Nat.le_refl _)] at h
      simp [init] at h
    · by_cases hen : (trAt e b n).en < 0
      · have ho := opn_of e hr.1 (by omega) hk hen
        rw [trAt] at h ⊢
        by_cases hth : (e n).th = (e b).th
        · rw [if_pos ⟨by omega, hth, hen⟩] at h ⊢
          rw [← hth] at ho
          by_cases h56 : (e n).k = 5 ∨ (e n).k = 6
          · refine ⟨n, by omega, by rw [stepT_en, if_pos h56], ho, h56, ?_⟩
            have hco : (trAt e b n).co ≠ true := fun h2 => by have := co_en e b n h2; omega
            rcases h56 with h5 | h6
            · simp [stepT, h5]
            · simp [stepT, h6, hco]
          · rw [stepT_en, if_neg h56] at h
            omega
        · rw [if_neg (fun h => hth h.2.1)] at h
          omega
      · have e1 : trAt e b (n + 1) = trAt e b n := by rw [trAt, if_neg (fun h => hen h.2.2)]
        rw [e1] at h ⊢
        obtain ⟨i, h1, h2⟩ := en_at e hk n hr.1 (by omega) h
        exact ⟨i, by omega, h2⟩

/-- The document's order: by the ends. -/
def commsD (e : Evs) (n : Nat) : List Tr := (List.range n).flatMap fun (i : Nat) => (tries e n).filter fun t => t.co && decide (t.en = (i : Int))

theorem tries_mem (e : Evs) (n : Nat) (t : Tr) : t ∈ tries e n ↔ ∃ b, b < n ∧ (e b).k = 1 ∧ trAt e b n = t := by
  unfold tries
  rw [List.mem_map]
  constructor
  · rintro ⟨b, h1, h2⟩
    obtain ⟨h3, h4⟩ := (begins_mem e n b).1 h1
    exact ⟨b, h3, h4, h2⟩
  · rintro ⟨b, h3, h4, h2⟩
    exact ⟨b, (begins_mem e n b).2 ⟨h3, h4⟩, h2⟩
theorem tries_nodup (e : Evs) (n : Nat) : (tries e n).Nodup := (tries_sorted e n).imp fun h h2 => by rw [h2] at h; omega

/-- One try an end. -/
theorem en_one (e : Evs) {n : Nat} (hr : right e n = true) {t u : Tr} (ht : t ∈ tries e n) (hu : u ∈ tries e n) (h0 : 0 ≤ t.en) (h : t.en = u.en) : t = u := by
  obtain ⟨b, h1, h2, rfl⟩ := (tries_mem e n t).1 ht
  obtain ⟨c, h3, h4, rfl⟩ := (tries_mem e n u).1 hu
  obtain ⟨i, _, hi, ho, _⟩ := en_at e h2 n hr h1 h0
  obtain ⟨j, _, hj, ho2, _⟩ := en_at e h4 n hr h3 (by omega)
  have : i = j := by omega
  subst this
  rw [ho] at ho2
  cases ho2
  rfl

theorem commsD_sorted (e : Evs) {n : Nat} (hr : right e n = true) : (commsD e n).Pairwise (fun x y => x.en < y.en) := by
  unfold commsD
  rw [List.pairwise_flatMap]
  refine ⟨fun i _ => ?_, ?_⟩
  · have hnd := (tries_nodup e n).filter (fun t => t.co && decide (t.en = (i : Int)))
    refine (List.pairwise_iff_getElem.2 fun a b ha hb hab => ?_)
    have h1 := List.getElem_mem ha
    have h2 := List.getElem_mem hb
    rw [List.mem_filter] at h1 h2
    simp at h1 h2
    have := en_one e hr h1.1 h2.1 (by omega) (by omega)
    exact absurd this (List.pairwise_iff_getElem.1 hnd a b ha hb hab)
  · refine List.pairwise_lt_range.imp ?_
    intro i j hij x hx y hy
    rw [List.mem_filter] at hx hy
    simp at hx hy
    omega

theorem commsD_perm (e : Evs) {n : Nat} (hr : right e n = true) : (commsD e n).Perm ((tries e n).filter fun t => t.co) := by
  refine (List.perm_ext_iff_of_nodup ((commsD_sorted e hr).imp fun h h2 => by rw [h2] at h; omega) ((tries_nodup e n).filter _)).2 fun t => ?_
  unfold commsD
  rw [List.mem_flatMap]
  constructor
  · rintro ⟨i, _, h⟩
    rw [List.mem_filter] at h ⊢
    simp at h
    exact ⟨h.1, h.2.1⟩
  · intro h
    rw [List.mem_filter] at h
    obtain ⟨ht, hc⟩ := h
    have hc' : t.co = true := hc
    obtain ⟨b, h1, h2, rfl⟩ := (tries_mem e n t).1 ht
    obtain ⟨i, h3, h4, _⟩ := en_at e h2 n hr h1 (co_en e b n hc')
    exact ⟨i, by simpa using h3, List.mem_filter.2 ⟨ht, by simp [hc', h4]⟩⟩

/-- As many tries committed as there are EvCommit. -/
theorem comms_before (e : Evs) {n : Nat} (hr : right e n = true) : ((tries e n).filter fun t => t.co).length = before e n := by
  rw [← (commsD_perm e hr).length_eq]
  have key : ∀ m, m ≤ n → ((List.range m).flatMap fun (i : Nat) => (tries e n).filter fun t => t.co && decide (t.en = (i : Int))).length = before e m := by
    intro m
    induction m with
    | zero => intro _; rfl
    | succ m ih =>
      intro hm
      rw [List.range_succ, List.flatMap_append, List.length_append, ih (by omega), before]
      congr 1
      simp only [List.flatMap_cons, List.flatMap_nil, List.append_nil]
      have hmay := right_may e hr (show m < n by omega)
      by_cases h5 : (e m).k = 5
      · rw [if_pos h5]
        obtain ⟨b, ho⟩ : ∃ b, opn e m (e m).th = some b := by
          cases ho : opn e m (e m).th with
          | some b => exact ⟨b, rfl⟩
          | none =>
            unfold may at hmay
            rw [ho] at hmay
            simp [h5] at hmay
        obtain ⟨b1, b2, b3, b4⟩ := opn_spec e _ _ _ ho
        have e1 := trAt_ends e ho (.inl h5)
        have e2 : trAt e b n = trAt e b (m + 1) := trAt_end e b (by omega) (by omega)
        have hmem : trAt e b n ∈ (tries e n).filter fun t => t.co && decide (t.en = (m : Int)) := by
          rw [List.mem_filter]
          refine ⟨(tries_mem e n _).2 ⟨b, by omega, b2, rfl⟩, ?_⟩
          rw [e2, e1, trAt_step e ho]
          simp [stepT, h5]
        have hone : ∀ t ∈ (tries e n).filter (fun t => t.co && decide (t.en = (m : Int))), t = trAt e b n := by
          intro t ht
          rw [List.mem_filter] at ht hmem
          simp at ht hmem
          exact en_one e hr ht.1 hmem.1 (by omega) (by omega)
        have hnd := (tries_nodup e n).filter (fun t => t.co && decide (t.en = (m : Int)))
        revert hmem hone hnd
        generalize (tries e n).filter (fun t => t.co && decide (t.en = (m : Int))) = L
        intro hmem hone hnd
        match L, hmem, hone, hnd with
        | [a], _, _, _ => rfl
        | a :: b :: L, _, hone, hnd =>
          have h1 := hone a (by simp)
          have h2 := hone b (by simp)
          rw [h1, h2] at hnd
          simp at hnd
      · rw [if_neg h5, List.length_eq_zero_iff, List.filter_eq_nil_iff]
        intro t ht
        obtain ⟨b, h1, h2, rfl⟩ := (tries_mem e n t).1 ht
        simp
        intro hc hen
        obtain ⟨i, h3, h4, _, _, h7⟩ := en_at e h2 n hr h1 (co_en e b n hc)
        have : i = m := by omega
        subst this
        exact h5 (h7.1 hc)
  exact key n (Nat.le_refl n)
end Go.Proofs.Ytdohepenmejcaaa.base
