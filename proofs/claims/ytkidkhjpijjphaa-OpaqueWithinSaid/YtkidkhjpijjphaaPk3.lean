/- Texts of one's own, one behind the other: OpB, Hv, Hw, Hx, Wk, OpenB, Mo, Mf, WkA, MapE, WkB, WkC, WkD, WkE, Mc, OpC, WkF. -/
import Derived.Test.YtkidkhjpijjphaaPk2
import Derived.Deep.QuietTactic
import Derived.BigQuiet
import Derived.Deep.RegionHeld3
import Derived.Deep.CutRange
import Derived.ChangeArms
import Derived.Laws.ResultCell
import Derived.Laws.Rows
import Derived.WideKeyEntry
import Derived.Deep.RegionHeldLaw
/- Where tries are seen: what a commit does to those that wait. Of no program, and of no memory. -/
namespace Go.Proofs.Ytkidkhjpijjphaa.base
open Go
set_option linter.unusedVariables false
set_option linter.unusedSimpArgs false

/-- What is known within a commit at place i: what is to be woken yet, and who is in hand. -/
structure WkMid (e : Evs) (n len : Nat) (S : Nat → Nat → Int) (i : Nat) (todo : Int × Int → Prop) (hand : List Nat) (s : Wk) : Prop where
  slen : s.seen.length = (tries e len).length
  at_ : ∀ (no : Nat) (t : Tr), (tries e len)[no]? = some t → ∃ q, s.seen[no]? = some q ∧
    ((SeenAt e n len (i + 1) S t q ∧ (Live (i + 1) t → q = -1 → Never n S t ∨ ∃ x, no ∈ s.M x ∧ Waits n (S (before e (i + 1))) x t.ac)) ∨
     (q = -1 ∧ Live (i + 1) t ∧ SeenAt e n len i S t (-1) ∧ (no ∈ hand ∨ ∃ x, todo x ∧ no ∈ s.M x)))
  mem : ∀ (x : Int × Int) (no : Nat), no ∈ s.M x → no ∉ hand ∧ ∃ t, (tries e len)[no]? = some t ∧ t.co = false ∧ t.b < ((i + 1 : Nat) : Int) ∧ s.seen[no]? = some (-1)
  inh : ∀ (no : Nat), no ∈ hand → ∃ t, (tries e len)[no]? = some t ∧ t.co = false ∧ t.b < ((i + 1 : Nat) : Int) ∧ s.seen[no]? = some (-1)
  hnd : hand.Nodup
  uniq : ∀ (x y : Int × Int) (no : Nat), no ∈ s.M x → no ∈ s.M y → x = y
  nodup : ∀ x, (s.M x).Nodup

section
variable {e : Evs} {n len i : Nat} {S : Nat → Nat → Int} {todo : Int × Int → Prop} {hand : List Nat} {s : Wk}

theorem live_end {t : Tr} {no : Nat} (hi : i < len) (hr : right e len = true) (ht : (tries e len)[no]? = some t) (h : Live (i + 1) t) : i + 1 ≤ endOf len t := by
  unfold endOf
  split
  · omega
  · have := h.2.2; omega
/-- One that goes on: what SeenAt says of it. -/
theorem seen_live {t : Tr} {no : Nat} {q : Int} (hi : i < len) (h5 : (e i).k = 5) (hr : right e len = true) (ht : (tries e len)[no]? = some t) (h : Live (i + 1) t) :
    (SeenAt e n len i S t q ↔ IsP (fun k => fits n (S k) t.ac) (before e t.b.toNat) (before e i) q) ∧ (SeenAt e n len (i + 1) S t q ↔ IsP (fun k => fits n (S k) t.ac) (before e t.b.toNat) (before e i + 1) q) ∧ before e t.b.toNat ≤ before e i + 1 := by
  have h1 := live_end hi hr ht h
  obtain ⟨b, _, _, h2, _, h3⟩ := tries_get ht
  have hb : b ≠ i := fun e => by subst e; omega
  have hlt : t.b < (i : Int) := by have := h.2.1; omega
  have hbe : before e (i + 1) = before e i + 1 := by rw [before, if_pos h5]
  have hco : ¬ t.co = true := by rw [h.1]; simp
  refine ⟨?_, ?_, ?_⟩
  · unfold SeenAt
    rw [if_neg hco, if_pos hlt, Nat.min_eq_left (by omega)]
  · unfold SeenAt
    rw [if_neg hco, if_pos h.2.1, Nat.min_eq_left h1, hbe]
  · have := before_mono e (show t.b.toNat ≤ i by omega)
    omega
theorem seen_back {t : Tr} {no : Nat} (hi : i < len) (h5 : (e i).k = 5) (hr : right e len = true) (ht : (tries e len)[no]? = some t) (h : Live (i + 1) t) (hs : SeenAt e n len (i + 1) S t (-1)) : SeenAt e n len i S t (-1) := by
  obtain ⟨h1, h2, _⟩ := seen_live (q := -1) (S := S) (n := n) hi h5 hr ht h
  refine h1.2 ?_
  rcases h2.1 hs with ⟨_, h⟩ | ⟨p, hp, _⟩
  · exact .inl ⟨rfl, fun k a b => h k a (by omega)⟩
  · omega

theorem WkMid.wake1 {no : Nat} (h : WkMid e n len S i todo (no :: hand) s) (hi : i < len) (h5 : (e i).k = 5) (hr : right e len = true) : WkMid e n len S i todo hand (base.wake1 (tries e len) n (S (before e (i + 1))) (before e i + 1) i no s) := by
  obtain ⟨t, ht, hco, hb, hs⟩ := h.inh no (by simp)
  have hbe : before e (i + 1) = before e i + 1 := by rw [before, if_pos h5]
  have hnd := List.nodup_cons.1 h.hnd
  have hnol : no < s.seen.length := by rw [h.slen]; exact (List.getElem?_eq_some_iff.1 ht).1
  have hnoM : ∀ (x : Int × Int), no ∉ s.M x := fun x hx => (h.mem x no hx).1 (by simp)
  have hother : ∀ (s' : Wk), (∀ (x : Int × Int) (no' : Nat), no' ≠ no → no' ∈ s.M x → no' ∈ s'.M x) → ∀ (no' : Nat) (t' : Tr), no' ≠ no → (tries e len)[no']? = some t' → ∃ q, s.seen[no']? = some q ∧
    ((SeenAt e n len (i + 1) S t' q ∧ (Live (i + 1) t' → q = -1 → Never n S t' ∨ ∃ x, no' ∈ s'.M x ∧ Waits n (S (before e (i + 1))) x t'.ac)) ∨
     (q = -1 ∧ Live (i + 1) t' ∧ SeenAt e n len i S t' (-1) ∧ (no' ∈ hand ∨ ∃ x, todo x ∧ no' ∈ s'.M x))) := by
    intro s' hM no' t' hne ht'
    obtain ⟨q, hq, h1 | h1⟩ := h.at_ no' t' ht'
    · refine ⟨q, hq, .inl ⟨h1.1, fun hl h2 => ?_⟩⟩
      rcases h1.2 hl h2 with h3 | ⟨x, h3, h4⟩
      · exact .inl h3
      · exact .inr ⟨x, hM x no' hne h3, h4⟩
    · refine ⟨q, hq, .inr ⟨h1.1, h1.2.1, h1.2.2.1, ?_⟩⟩
      rcases h1.2.2.2 with h2 | ⟨x, h2, h3⟩
      · rcases List.mem_cons.1 h2 with h2 | h2
        · exact absurd h2 hne
        · exact .inl h2
      · exact .inr ⟨x, h2, hM x no' hne h3⟩
  unfold base.wake1
  rw [ht]
  dsimp only
  by_cases hl : t.en < 0 ∨ (i : Int) < t.en
  · rw [if_pos hl]
    have hL : Live (i + 1) t := ⟨hco, hb, by omega⟩
    obtain ⟨s1, s2, s3⟩ := seen_live (q := -1) (S := S) (n := n) hi h5 hr ht hL
    have hP : IsP (fun k => fits n (S k) t.ac) (before e t.b.toNat) (before e i) (-1) := by
      obtain ⟨q, hq, h1 | h1⟩ := h.at_ no t ht
      · rw [hs] at hq
        cases hq
        exact s1.1 (seen_back hi h5 hr ht hL h1.1)
      · exact s1.1 h1.2.2.1
    unfold ask
    by_cases hf : fits n (S (before e (i + 1))) t.ac = true
    · rw [if_pos hf]
      refine ⟨by simpa using h.slen, fun no' t' ht' => ?_, fun x no' hx => ?_, fun no' hx => ?_, hnd.2, h.uniq, h.nodup⟩
      · by_cases e1 : no' = no
        · subst e1
          rw [ht] at ht'
          cases ht'
          refine ⟨_, List.getElem?_set_self hnol, .inl ⟨?_, fun _ h2 => by omega⟩⟩
          rw [hbe] at hf
          exact (seen_live hi h5 hr ht hL).2.1.2 (hP.up1 s3 hf)
        · obtain ⟨q, hq, h1⟩ := hother s (fun _ _ _ h => h) no' t' e1 ht'
          exact ⟨q, by rw [List.getElem?_set_ne (Ne.symm e1)]; exact hq, h1⟩
      · obtain ⟨g0, t', g1, g2, g3, g4⟩ := h.mem x no' hx
        refine ⟨fun hm => g0 (List.mem_cons_of_mem _ hm), t', g1, g2, g3, ?_⟩
        dsimp only
        rw [List.getElem?_set_ne (show no ≠ no' from fun e1 => g0 (by simp [e1]))]
        exact g4
      · obtain ⟨t', g1, g2, g3, g4⟩ := h.inh no' (List.mem_cons_of_mem _ hx)
        refine ⟨t', g1, g2, g3, ?_⟩
        dsimp only
        rw [List.getElem?_set_ne (show no ≠ no' from fun e1 => hnd.1 (by rw [e1]; exact hx))]
        exact g4
    · rw [if_neg hf]
      have hf' : fits n (S (before e (i + 1))) t.ac = false := by simpa using hf
      have hP' := s2.2 (hP.up0 (by rw [← hbe]; exact hf'))
      cases hm : misses n (S (before e (i + 1))) t.ac with
      | none =>
        refine ⟨h.slen, fun no' t' ht' => ?_, fun x no' hx => ?_, fun no' hx => h.inh no' (List.mem_cons_of_mem _ hx), hnd.2, h.uniq, h.nodup⟩
        · by_cases e1 : no' = no
          · subst e1
            rw [ht] at ht'
            cases ht'
            exact ⟨-1, hs, .inl ⟨hP', fun _ _ => .inl fun k => never_fits hf' hm _⟩⟩
          · exact hother s (fun _ _ _ h => h) no' t' e1 ht'
        · obtain ⟨g0, t', g1, g2, g3, g4⟩ := h.mem x no' hx
          exact ⟨fun hm => g0 (List.mem_cons_of_mem _ hm), t', g1, g2, g3, g4⟩
      | some x0 =>
        dsimp only
        refine ⟨h.slen, fun no' t' ht' => ?_, fun x no' hx => ?_, fun no' hx => h.inh no' (List.mem_cons_of_mem _ hx), hnd.2, fun x y no' hx hy => ?_, fun x => ?_⟩
        · by_cases e1 : no' = no
          · subst e1
            rw [ht] at ht'
            cases ht'
            exact ⟨-1, hs, .inl ⟨hP', fun _ _ => .inr ⟨x0, by dsimp only; rw [if_pos rfl]; simp, misses_some hm⟩⟩⟩
          · exact hother ⟨s.seen, fun y => if y = x0 then s.M y ++ [no] else s.M y⟩ (fun x no' _ h => by dsimp only; split <;> first | exact List.mem_append_left _ h | exact h) no' t' e1 ht'
        · dsimp only at hx
          by_cases e1 : no' = no
          · subst e1
            exact ⟨hnd.1, t, ht, hco, hb, hs⟩
          · have hx' : no' ∈ s.M x := by
              split at hx
              · rcases List.mem_append.1 hx with hx | hx
                · exact hx
                · exact absurd (by simpa using hx) e1
              · exact hx
            obtain ⟨g0, t', g1, g2, g3, g4⟩ := h.mem x no' hx'
            exact ⟨fun hm => g0 (List.mem_cons_of_mem _ hm), t', g1, g2, g3, g4⟩
        · dsimp only at hx hy
          by_cases e1 : no' = no
          · subst e1
            have key : ∀ (x : Int × Int), no' ∈ (if x = x0 then s.M x ++ [no'] else s.M x) → x = x0 := fun x hx => by
              by_cases e2 : x = x0
              · exact e2
              · rw [if_neg e2] at hx
                exact absurd hx (hnoM x)
            exact (key x hx).trans (key y hy).symm
          · have key : ∀ (x : Int × Int), no' ∈ (if x = x0 then s.M x ++ [no] else s.M x) → no' ∈ s.M x := fun x hx => by
              split at hx
              · rcases List.mem_append.1 hx with hx | hx
                · exact hx
                · exact absurd (by simpa using hx) e1
              · exact hx
            exact h.uniq x y no' (key x hx) (key y hy)
        · dsimp only
          split
          · refine List.nodup_append.2 ⟨h.nodup x, by simp, fun a ha b hb hab => ?_⟩
            have : b = no := by simpa using hb
            exact hnoM x (by rw [← this, ← hab]; exact ha)
          · exact h.nodup x
  · rw [if_neg hl]
    refine ⟨h.slen, fun no' t' ht' => ?_, fun x no' hx => ?_, fun no' hx => h.inh no' (List.mem_cons_of_mem _ hx), hnd.2, h.uniq, h.nodup⟩
    · by_cases e1 : no' = no
      · subst e1
        rw [ht] at ht'
        cases ht'
        obtain ⟨q, hq, h1 | h1⟩ := h.at_ no' t ht
        · exact ⟨q, hq, .inl ⟨h1.1, fun hL => absurd hL.2.2 (by omega)⟩⟩
        · exact absurd h1.2.1.2.2 (by omega)
      · exact hother s (fun _ _ _ h => h) no' t' e1 ht'
    · obtain ⟨g0, t', g1, g2, g3, g4⟩ := h.mem x no' hx
      exact ⟨fun hm => g0 (List.mem_cons_of_mem _ hm), t', g1, g2, g3, g4⟩

theorem WkMid.wakes : ∀ {hand : List Nat} {s : Wk}, WkMid e n len S i todo hand s → i < len → (e i).k = 5 → right e len = true → WkMid e n len S i todo [] (base.wakes (tries e len) n (S (before e (i + 1))) (before e i + 1) i hand s)
  | [], _, h, _, _, _ => h
  | no :: hand, s, h, hi, h5, hr => WkMid.wakes (hand := hand) (h.wake1 hi h5 hr) hi h5 hr

theorem WkMid.take (h : WkMid e n len S i todo [] s) (hi : i < len) (h5 : (e i).k = 5) (hr : right e len = true) (x : Int × Int) : WkMid e n len S i (fun y => todo y ∧ y ≠ x) (s.M x) ⟨s.seen, fun y => if y = x then [] else s.M y⟩ := by
  refine ⟨h.slen, fun no t ht => ?_, fun y no hy => ?_, fun no hx => ?_, h.nodup x, fun y y' no hy hy' => ?_, fun y => ?_⟩
  · obtain ⟨q, hq, h1 | h1⟩ := h.at_ no t ht
    · by_cases hL : Live (i + 1) t ∧ no ∈ s.M x
      · obtain ⟨_, t', g1, _, _, g4⟩ := h.mem x no hL.2
        rw [hq] at g4
        cases g4
        exact ⟨-1, hq, .inr ⟨rfl, hL.1, seen_back hi h5 hr ht hL.1 h1.1, .inl hL.2⟩⟩
      · refine ⟨q, hq, .inl ⟨h1.1, fun h2 h3 => ?_⟩⟩
        rcases h1.2 h2 h3 with h4 | ⟨y, h4, h5⟩
        · exact .inl h4
        · refine .inr ⟨y, ?_, h5⟩
          dsimp only
          rw [if_neg (show ¬ y = x from fun e1 => hL ⟨h2, e1 ▸ h4⟩)]
          exact h4
    · refine ⟨q, hq, .inr ⟨h1.1, h1.2.1, h1.2.2.1, ?_⟩⟩
      rcases h1.2.2.2 with h2 | ⟨y, h2, h3⟩
      · simp at h2
      · by_cases e1 : y = x
        · subst e1; exact .inl h3
        · exact .inr ⟨y, ⟨h2, e1⟩, by dsimp only; rw [if_neg e1]; exact h3⟩
  · dsimp only at hy
    split at hy
    · simp at hy
    · next hne =>
      obtain ⟨_, t, g1⟩ := h.mem y no hy
      exact ⟨fun hm => hne (h.uniq y x no hy hm), t, g1⟩
  · exact (h.mem x no hx).2
  · dsimp only at hy hy'
    split at hy
    · simp at hy
    · split at hy'
      · simp at hy'
      · exact h.uniq y y' no hy hy'
  · dsimp only
    split
    · exact List.nodup_nil
    · exact h.nodup y

theorem WkMid.weak {todo' : Int × Int → Prop} (h : WkMid e n len S i todo hand s) (ht : ∀ x, todo x → todo' x) : WkMid e n len S i todo' hand s := by
  refine ⟨h.slen, fun no t hn => ?_, h.mem, h.inh, h.hnd, h.uniq, h.nodup⟩
  obtain ⟨q, hq, h1 | ⟨h1, h2, h3, h4⟩⟩ := h.at_ no t hn
  · exact ⟨q, hq, .inl h1⟩
  · refine ⟨q, hq, .inr ⟨h1, h2, h3, ?_⟩⟩
    rcases h4 with h4 | ⟨x, h4, h5⟩
    · exact .inl h4
    · exact .inr ⟨x, ht x h4, h5⟩

theorem WkMid.all : ∀ {l : List Nat} {s : Wk}, WkMid e n len S i (fun x => ∃ o : Nat, o ∈ l ∧ x = ((o : Int), S (before e (i + 1)) o)) [] s → i < len → (e i).k = 5 → right e len = true → WkMid e n len S i (fun _ => False) [] (wakeAll (tries e len) n (S (before e (i + 1))) (before e i + 1) i l s)
  | [], _, h, _, _, _ => h.weak (fun x ⟨_, h, _⟩ => by simp at h)
  | o :: l, s, h, hi, h5, hr => by
    refine WkMid.all (l := l) ?_ hi h5 hr
    refine ((h.take hi h5 hr ((o : Int), S (before e (i + 1)) o)).wakes hi h5 hr).weak ?_
    rintro x ⟨⟨o', h1, h2⟩, h3⟩
    rcases List.mem_cons.1 h1 with rfl | h1
    · exact absurd h2 h3
    · exact ⟨o', h1, h2⟩

/-- Whatever of it is woken. -/
theorem WkMid.part (hi : i < len) (h5 : (e i).k = 5) (hr : right e len = true) : ∀ (l : List Nat) {s : Wk}, WkMid e n len S i todo [] s → WkMid e n len S i todo [] (wakeAll (tries e len) n (S (before e (i + 1))) (before e i + 1) i l s)
  | [], _, h => h
  | o :: l, s, h => WkMid.part hi h5 hr l (((h.take hi h5 hr ((o : Int), S (before e (i + 1)) o)).wakes hi h5 hr).weak fun _ hx => hx.1)

theorem WkMid.done (h : WkMid e n len S i (fun _ => False) [] s) : WkInv e n len S (i + 1) s := by
  refine ⟨h.slen, fun no t ht => ?_, fun no t ht hl hs => ?_, fun x no hx => (h.mem x no hx).2, h.uniq, h.nodup⟩
  · obtain ⟨q, hq, h1 | ⟨_, _, _, h1 | ⟨_, h1, _⟩⟩⟩ := h.at_ no t ht
    · exact ⟨q, hq, h1.1⟩
    · simp at h1
    · exact h1.elim
  · obtain ⟨q, hq, h1 | ⟨_, _, _, h1 | ⟨_, h1, _⟩⟩⟩ := h.at_ no t ht
    · rw [hs] at hq
      cases hq
      exact h1.2 hl rfl
    · simp at h1
    · exact h1.elim

/-- What is known as soon as a try that commits was asked itself. -/
theorem WkInv.mid (h : WkInv e n len S i s) (hr : right e len = true) (hi : i < len) (h5 : (e i).k = 5) {no : Nat} {t : Tr} (ht : (tries e len)[no]? = some t) (hco : t.co = true) (hen : t.en = (i : Int)) (hS : S (before e i + 1) = app (S (before e i)) t.ac) :
    WkMid e n len S i (fun x => ∃ o : Nat, o ∈ writes n t.ac ∧ x = ((o : Int), S (before e (i + 1)) o)) [] (if fits n (S (before e i)) t.ac = true then ⟨s.seen.set no (before e i), s.M⟩ else s) := by
  have hbe : before e (i + 1) = before e i + 1 := by rw [before, if_pos h5]
  have hnol : no < s.seen.length := by rw [h.slen]; exact (List.getElem?_eq_some_iff.1 ht).1
  have hnoM : ∀ (x : Int × Int) (no' : Nat), no' ∈ s.M x → no' ≠ no := fun x no' hx e1 => by
    subst e1
    obtain ⟨t', g1, g2, _⟩ := h.mem x no' hx
    rw [ht] at g1
    cases g1
    rw [hco] at g2
    cases g2
  have hbi : ∀ (no' : Nat) (t' : Tr), (tries e len)[no']? = some t' → (t'.b < ((i + 1 : Nat) : Int) ↔ t'.b < (i : Int)) := fun no' t' ht' => by
    obtain ⟨b, _, _, h2, _, h3⟩ := tries_get ht'
    have : b ≠ i := fun e => by subst e; omega
    omega
  have hone : ∀ (no' : Nat) (t' : Tr), (tries e len)[no']? = some t' → t'.en = (i : Int) → no' = no := fun no' t' ht' he => by
    have := en_one e hr (List.mem_of_getElem? ht') (List.mem_of_getElem? ht) (by omega) (by omega)
    subst this
    exact tries_b_one ht' ht rfl
  have key : ∀ s1 : Wk, s1.M = s.M → s1.seen.length = s.seen.length → (∀ (no' : Nat), no' ≠ no → s1.seen[no']? = s.seen[no']?) → s1.seen[no]? = some (if fits n (S (before e i)) t.ac = true then (before e i : Int) else -1) →
      WkMid e n len S i (fun x => ∃ o : Nat, o ∈ writes n t.ac ∧ x = ((o : Int), S (before e (i + 1)) o)) [] s1 := by
    intro s1 hM hsl hso hsn
    refine ⟨hsl.trans h.slen, fun no' t' ht' => ?_, fun x no' hx => ⟨by simp, ?_⟩, fun no' hx => by simp at hx, List.nodup_nil, by rw [hM]; exact h.uniq, by rw [hM]; exact h.nodup⟩
    · by_cases e1 : no' = no
      · subst e1
        rw [ht] at ht'
        cases ht'
        refine ⟨_, hsn, .inl ⟨?_, fun hL => by rw [hL.1] at hco; cases hco⟩⟩
        unfold SeenAt
        rw [if_pos hco, hen, Int.toNat_natCast]
        by_cases hf : fits n (S (before e i)) t.ac = true
        · rw [if_pos hf, if_pos ⟨by omega, hf⟩]
        · rw [if_neg hf, if_neg (fun h => hf h.2)]
      · rw [hso no' e1, hM]
        obtain ⟨q, hq, hs⟩ := h.at_ no' t' ht'
        refine ⟨q, hq, ?_⟩
        by_cases hL : Live (i + 1) t'
        · obtain ⟨s1', s2', s3'⟩ := seen_live (q := q) (S := S) (n := n) hi h5 hr ht' hL
          by_cases hq1 : q = -1
          · subst hq1
            have hP := s1'.1 hs
            have hLi : Live i t' := ⟨hL.1, (hbi no' t' ht').1 hL.2.1, by have := hL.2.2; omega⟩
            rcases h.wait no' t' ht' hLi hq with hN | ⟨x, hx, hw⟩
            · exact .inl ⟨s2'.2 (hP.up0 (hN _)), fun _ _ => .inl hN⟩
            · by_cases hw' : Waits n (S (before e (i + 1))) x t'.ac
              · exact .inl ⟨s2'.2 (hP.up0 (by rw [← hbe]; exact waits_fits hw')), fun _ _ => .inr ⟨x, hx, hw'⟩⟩
              · refine .inr ⟨rfl, hL, hs, .inr ⟨x, ?_, hx⟩⟩
                obtain ⟨a, ha, h1, h2, h3⟩ := hw
                have h4 : holdsB n (S (before e (i + 1))) a = true := by
                  cases h4 : holdsB n (S (before e (i + 1))) a with
                  | true => rfl
                  | false => exact absurd ⟨a, ha, h1, h2, h4⟩ hw'
                unfold holdsB at h3 h4
                simp only [Bool.and_eq_true, decide_eq_true_eq, beq_iff_eq] at h4
                obtain ⟨⟨g1, g2⟩, g3⟩ := h4
                simp only [g1, g2, decide_true, Bool.true_and, beq_eq_false_iff_ne] at h3
                refine ⟨a.ob.toNat, app_writes (z := S (before e i)) (by omega) ?_, ?_⟩
                · rw [← hS, ← hbe, ← g3]
                  exact h3
                · rw [← h2, ← g3]
                  congr 1
                  omega
          · exact .inl ⟨s2'.2 ((s1'.1 hs).up hq1), fun _ h => absurd h hq1⟩
        · refine .inl ⟨?_, fun h => absurd h hL⟩
          unfold SeenAt at hs ⊢
          by_cases hc : t'.co = true
          · rw [if_pos hc] at hs ⊢
            have : t'.en < ((i + 1 : Nat) : Int) ↔ t'.en < (i : Int) := by
              have : t'.en ≠ (i : Int) := fun e2 => e1 (hone no' t' ht' e2)
              omega
            simpa only [this] using hs
          · rw [if_neg hc] at hs ⊢
            by_cases hlt : t'.b < (i : Int)
            · rw [if_pos hlt] at hs
              rw [if_pos ((hbi no' t' ht').2 hlt)]
              have hc' : t'.co = false := by simpa using hc
              have hen2 : ¬ t'.en < 0 ∧ t'.en < (i : Int) := by
                have : ¬ (t'.en < 0 ∨ ((i + 1 : Nat) : Int) ≤ t'.en) := fun h => hL ⟨hc', (hbi no' t' ht').2 hlt, h⟩
                have h2 : t'.en ≠ (i : Int) := fun e2 => e1 (hone no' t' ht' e2)
                omega
              have : endOf len t' ≤ i := by unfold endOf; rw [if_neg hen2.1]; omega
              rw [Nat.min_eq_right (by omega)]
              rwa [Nat.min_eq_right this] at hs
            · rw [if_neg hlt] at hs
              rw [if_neg (fun h => hlt ((hbi no' t' ht').1 h))]
              exact hs
    · rw [hM] at hx
      obtain ⟨t', g1, g2, g3, g4⟩ := h.mem x no' hx
      exact ⟨t', g1, g2, by omega, by rw [hso no' (hnoM x no' hx)]; exact g4⟩
  have hsn0 : s.seen[no]? = some (-1) := by
    obtain ⟨q, hq, hs⟩ := h.at_ no t ht
    unfold SeenAt at hs
    rw [if_pos hco, if_neg (by omega)] at hs
    rw [hq, hs]
  by_cases hf : fits n (S (before e i)) t.ac = true
  · rw [if_pos hf]
    refine key _ rfl (by simp) (fun no' hne => ?_) ?_
    · dsimp only
      rw [List.getElem?_set_ne (Ne.symm hne)]
    · rw [if_pos hf]
      exact List.getElem?_set_self hnol
  · rw [if_neg hf]
    exact key s rfl rfl (fun _ _ => rfl) (by rw [if_neg hf]; exact hsn0)

/-- An event at which a try commits. -/
theorem WkInv.commit (h : WkInv e n len S i s) (hr : right e len = true) (hi : i < len) (h5 : (e i).k = 5) {no : Nat} {t : Tr} (ht : (tries e len)[no]? = some t) (hco : t.co = true) (hen : t.en = (i : Int)) (hS : S (before e i + 1) = app (S (before e i)) t.ac) :
    WkInv e n len S (i + 1) (base.commit (tries e len) n (S (before e i)) (before e i) i t no s) := by
  have hbe : before e (i + 1) = before e i + 1 := by rw [before, if_pos h5]
  unfold base.commit
  rw [← hS]
  have := ((h.mid hr hi h5 ht hco hen hS).all hi h5 hr).done
  rw [hbe] at this
  exact this
end

/-- Behind all events. -/
theorem WkInv.whole {e : Evs} {n len : Nat} {S : Nat → Nat → Int} {s : Wk} (h : WkInv e n len S len s) {no : Nat} {t : Tr} (ht : (tries e len)[no]? = some t) : ∃ q, s.seen[no]? = some q ∧ SeenAt e n len len S t q := h.at_ no t ht
end Go.Proofs.Ytkidkhjpijjphaa.base

/- The document's own answers of chapter 17: last, open, own, Right. -/
namespace Go.Proofs.Ytkidkhjpijjphaa.hs
open Go Go.RowKit Go.Proofs.Ytkidkhjpijjphaa.base Go.Maps
set_option linter.unusedVariables false
set_option maxRecDepth 100000

/-- Where the events lie. -/
theorem evsAt {w : World} {a : Option Addr} {n : Nat} {e : Evs} (h : IsEvs w a n e) (h0 : 0 < n) : ∃ b off, a = some ⟨b, off, none⟩ ∧ b < w.heap.size ∧ ∀ i, i < n → w.cell? ⟨b, off + i * 7, none⟩ = some (.int .i64 (e i).k) ∧ w.cell? ⟨b, off + i * 7 + 1, none⟩ = some (.int .i64 (e i).th) ∧ w.cell? ⟨b, off + i * 7 + 2, none⟩ = some (.int .i64 (e i).tx) ∧ w.cell? ⟨b, off + i * 7 + 3, none⟩ = some (.int .i64 (e i).at_) ∧ w.cell? ⟨b, off + i * 7 + 4, none⟩ = some (.int .i64 (e i).ob) ∧ w.cell? ⟨b, off + i * 7 + 5, none⟩ = some (.int .i64 (e i).va) ∧ w.cell? ⟨b, off + i * 7 + 6, none⟩ = some (.int .i64 (e i).re) := by
  rcases h with h | ⟨b, off, h1, h2, h3⟩
  · omega
  · refine ⟨b, off, h1, h2, fun i hi => ?_⟩
    have h4 := (h3 i hi).1
    exact ⟨h4 0 (by omega), h4 1 (by omega), h4 2 (by omega), h4 3 (by omega), h4 4 (by omega), h4 5 (by omega), h4 6 (by omega)⟩

theorem evsIn {w : World} {b off : Nat} {n : Nat} {e : Evs} (h : IsEvs w (some ⟨b, off, none⟩) n e) {i : Nat} (hi : i < n) : w.cell? ⟨b, off + i * 7, none⟩ = some (.int .i64 (e i).k) ∧ w.cell? ⟨b, off + i * 7 + 1, none⟩ = some (.int .i64 (e i).th) ∧ w.cell? ⟨b, off + i * 7 + 2, none⟩ = some (.int .i64 (e i).tx) ∧ w.cell? ⟨b, off + i * 7 + 3, none⟩ = some (.int .i64 (e i).at_) ∧ w.cell? ⟨b, off + i * 7 + 4, none⟩ = some (.int .i64 (e i).ob) ∧ w.cell? ⟨b, off + i * 7 + 5, none⟩ = some (.int .i64 (e i).va) ∧ w.cell? ⟨b, off + i * 7 + 6, none⟩ = some (.int .i64 (e i).re) := by
  obtain ⟨b2, off2, h1, _, h2⟩ := evsAt h (show 0 < n by omega)
  cases h1
  exact h2 i hi

set_option maxHeartbeats 1000000 in
theorem last_any (w : World) (a : Option Addr) (len cap : Nat) (e : Evs) (pl : Nat) (th : Int) (hl : IsEvs w a len e) (hp : pl ≤ len) (hlen : len ≤ 1000000) :
    Calls Try.prog 36 #[.slice a len cap, .int .i64 pl, .int .i64 th] w fun r w' => r = .returned (.int .i64 (lastI e pl th)) ∧ Hid (w.grownBy w' none) := by
  have HL := Lib.hid hl
  clear hl
  have hp1 : (pl : Int) ≤ 1000000 := by omega
  go_enter Try.func36, Try.ntmps36
  go_wp2_with fail
  go_loopw [7] (fun iv wr => ∃ i : Int, -1 ≤ i ∧ i < pl ∧ iv = .int .i64 i ∧ Hid (lastI e pl th = lastI e (i + 1).toNat th) ∧ Hid (w.grownBy wr none)) (fun iv _ => (intOf iv + 1).toNat)
  case atStart => exact ⟨(pl : Int) - 1, by omega, by omega, by go_num, by show _ = _; (try (congr 1; omega)), gb_refl _ _⟩
  case round =>
    obtain ⟨i, hi1, hi2, rfl, H, G⟩ := hrel
    by_cases h0 : 0 ≤ i
    · obtain ⟨j, rfl⟩ : ∃ j : Nat, i = j := ⟨i.toNat, by omega⟩
      have hj : j < len := by omega
      obtain ⟨b, off, rfl, hb, c0, c1, c2, c3, c4, c5, c6, we⟩ := (HL.out.grown G.out).at7 hj
      have HJ := Lib.hid (show ((j : Int) + 1).toNat = j + 1 by omega)
      have hj2 : (j : Int) < 1000000 := by omega
      have hj3 : (j : Int) < (len : Int) := by omega
      by_cases h1 : (e j).k = 1
      · have f1 : ((e j).k == 1) = true := by simp [h1]
        by_cases ht : (e j).th = th
        · have ft : ((e j).th == th) = true := by simp [ht]
          have HE := Lib.hid (show lastI e (j + 1) th = (j : Int) by rw [lastI, if_pos ⟨h1, ht⟩])
          clear h1 ht
          go_wp2
          go_ret
          exact ⟨by rw [H.out, HJ.out, HE.out]; rfl, G.out⟩
        · have ft : ((e j).th == th) = false := by simp [ht]
          have HE := Lib.hid (show lastI e (j + 1) th = lastI e j th by rw [lastI, if_neg (fun h => ht h.2)])
          clear h1 ht
          go_wp2
          go_roundw
          case rel => exact ⟨(j : Int) - 1, by omega, by omega, by go_num, by show _ = _; rw [H.out, HJ.out, HE.out]; (try (congr 1; omega)), G⟩
          case measure => simp [intOf] <;> omega
      · have f1 : ((e j).k == 1) = false := by simp [h1]
        have HE := Lib.hid (show lastI e (j + 1) th = lastI e j th by rw [lastI, if_neg (fun h => h1 h.1)])
        clear h1
        go_wp2
        go_roundw
        case rel => exact ⟨(j : Int) - 1, by omega, by omega, by go_num, by show _ = _; rw [H.out, HJ.out, HE.out]; (try (congr 1; omega)), G⟩
        case measure => simp [intOf] <;> omega
    · obtain rfl : i = -1 := by omega
      go_wp2
      go_ret
      exact ⟨by rw [H.out]; rfl, G.out⟩

theorem openB_no (e : Evs) (b k : Nat) (h : openB e b k = false) : ∀ j, openB e b (k + j) = false
  | 0 => h
  | j + 1 => by rw [← Nat.add_assoc, openB, openB_no e b k h j]; rfl
/-- Goes the try that began at a place on, ahead of another one? -/
def opB (e : Evs) (bg : Int) (pl : Nat) : Bool := decide (0 ≤ bg) && openB e bg.toNat pl

set_option maxHeartbeats 1000000 in
theorem open_any (w : World) (a : Option Addr) (len cap : Nat) (e : Evs) (bg : Int) (pl : Nat) (hl : IsEvs w a len e) (hb1 : -1 ≤ bg) (hb2 : bg < pl) (hp : pl ≤ len) (hlen : len ≤ 1000000) :
    Calls Try.prog 37 #[.slice a len cap, .int .i64 bg, .int .i64 pl] w fun r w' => r = .returned (.bool (opB e bg pl)) ∧ Hid (w.grownBy w' none) := by
  have HL := Lib.hid hl
  clear hl
  have hp1 : (pl : Int) ≤ 1000000 := by omega
  by_cases h0 : 0 ≤ bg
  · obtain ⟨b, rfl⟩ : ∃ b : Nat, bg = b := ⟨bg.toNat, by omega⟩
    have hbl : b < len := by omega
    have HS := Lib.hid (openB_self e b (b + 1) (Nat.le_refl _))
    have HO := Lib.hid (show opB e b pl = openB e b pl by unfold opB; simp)
    generalize opB e b pl = res at HO ⊢
    go_enter Try.func37, Try.ntmps37
    go_wp2_with fail
    go_loopw [7] (fun iv wr => ∃ k : Nat, b + 1 ≤ k ∧ k ≤ pl ∧ iv = .int .i64 k ∧ Hid (openB e b k = true) ∧ Hid (w.grownBy wr none)) (fun iv _ => (pl - intOf iv).toNat)
    case atStart => exact ⟨b + 1, by omega, by omega, by go_num, HS, gb_refl _ _⟩
    case round =>
      obtain ⟨k, hk1, hk2, rfl, H, G⟩ := hrel
      have hk3 : (k : Int) ≤ 1000000 := by omega
      by_cases hlt : k < pl
      · have hlt' : (k : Int) < (pl : Int) := by omega
        obtain ⟨eb, off, rfl, heb, fe0⟩ := evsAt (HL.out.grown G.out) (show 0 < len by omega)
        obtain ⟨c0, c1, _⟩ := fe0 k (by omega)
        obtain ⟨_, d1, _⟩ := fe0 b hbl
        have hkl : (k : Int) < (len : Int) := by omega
        have hbl' : (b : Int) < (len : Int) := by omega
        have hbb : (b : Int) < 1000000 := by omega
        clear fe0
        have HE := Lib.hid (show openB e b (k + 1) = !(decide ((e k).th = (e b).th) && (decide ((e k).k = 5) || decide ((e k).k = 6))) by rw [openB, H.out]; simp [show b < k from hk1])
        by_cases ht : (e k).th = (e b).th
        · have ft : ((e k).th == (e b).th) = true := by simp [ht]
          by_cases h5 : (e k).k = 5
          · have f5 : ((e k).k == 5) = true := by simp [h5]
            have HF := Lib.hid (show openB e b pl = false by have := openB_no e b (k + 1) (by rw [HE.out]; simp [ht, h5]) (pl - (k + 1)); rwa [show k + 1 + (pl - (k + 1)) = pl by omega] at this)
            clear ht h5
            go_wp2_with fail
            go_big_quiet (fail)
            go_wp2
            go_ret
            exact ⟨by rw [HO.out, HF.out]; rfl, gb_drewN G.out _⟩
          · have f5 : ((e k).k == 5) = false := by simp [h5]
            by_cases h6 : (e k).k = 6
            · have f6 : ((e k).k == 6) = true := by simp [h6]
              have HF := Lib.hid (show openB e b pl = false by have := openB_no e b (k + 1) (by rw [HE.out]; simp [ht, h6]) (pl - (k + 1)); rwa [show k + 1 + (pl - (k + 1)) = pl by omega] at this)
              clear ht h5 h6
              go_wp2_with fail
              go_big_quiet (fail)
              go_wp2
              go_ret
              exact ⟨by rw [HO.out, HF.out]; rfl, gb_drewN G.out _⟩
            · have f6 : ((e k).k == 6) = false := by simp [h6]
              have HF := Lib.hid (show openB e b (k + 1) = true by rw [HE.out]; simp [h5, h6])
              clear ht h5 h6
              go_wp2_with fail
              go_big_quiet (fail)
              go_wp2
              go_roundw
              case rel => exact ⟨k + 1, by omega, by omega, by go_num, HF, gb_drewN G.out _⟩
              case measure => simp [intOf] <;> omega
        · have ft : ((e k).th == (e b).th) = false := by simp [ht]
          have HF := Lib.hid (show openB e b (k + 1) = true by rw [HE.out]; simp [ht])
          clear ht
          go_wp2_with fail
          go_big_quiet (fail)
          go_wp2
          go_roundw
          case rel => exact ⟨k + 1, by omega, by omega, by go_num, HF, gb_drewN G.out _⟩
          case measure => simp [intOf] <;> omega
      · obtain rfl : k = pl := by omega
        go_wp2
        go_ret
        exact ⟨by rw [HO.out, H.out]; rfl, G.out⟩
  · obtain rfl : bg = -1 := by omega
    go_enter Try.func37, Try.ntmps37
    go_wp2
    go_ret
    exact ⟨by unfold opB; rfl, gb_refl _ _⟩

set_option maxHeartbeats 1000000 in
theorem own_any (x y : Ev) (w : World) : Calls Try.prog 38 #[.agg #[.int .i64 x.k, .int .i64 x.th, .int .i64 x.tx, .int .i64 x.at_, .int .i64 x.ob, .int .i64 x.va, .int .i64 x.re], .agg #[.int .i64 y.k, .int .i64 y.th, .int .i64 y.tx, .int .i64 y.at_, .int .i64 y.ob, .int .i64 y.va, .int .i64 y.re]] w fun r w' => r = .returned (.bool (ownE x y)) ∧ Hid (w.grownBy w' none) := by
  obtain ⟨o, ho⟩ : ∃ o, o = ownE x y := ⟨_, rfl⟩
  have HO := Lib.hid ho
  rw [← ho]
  clear ho
  unfold ownE at HO
  by_cases h1 : x.th = y.th
  · have f1 : (x.th == y.th) = true := by simp [h1]
    by_cases h2 : x.tx = y.tx
    · have f2 : (x.tx == y.tx) = true := by simp [h2]
      by_cases h3 : x.at_ = y.at_
      · have f3 : (x.at_ == y.at_) = true := by simp [h3]
        have HF := Lib.hid (show o = true by rw [HO.out]; simp [h1, h2, h3])
        clear h1 h2 h3 HO
        go_enter Try.func38, Try.ntmps38
        go_wp2
        go_ret
        exact ⟨by rw [HF.out]; rfl, (by repeat (first | exact gb_refl _ _ | refine gb_drewN ?_ _ | refine gb_drew ?_ | refine gb_alloc ?_ _))⟩
      · have f3 : (x.at_ == y.at_) = false := by simp [h3]
        have HF := Lib.hid (show o = false by rw [HO.out]; simp [h3])
        clear h1 h2 h3 HO
        go_enter Try.func38, Try.ntmps38
        go_wp2
        go_ret
        exact ⟨by rw [HF.out]; rfl, (by repeat (first | exact gb_refl _ _ | refine gb_drewN ?_ _ | refine gb_drew ?_ | refine gb_alloc ?_ _))⟩
    · have f2 : (x.tx == y.tx) = false := by simp [h2]
      have HF := Lib.hid (show o = false by rw [HO.out]; simp [h2])
      clear h1 h2 HO
      go_enter Try.func38, Try.ntmps38
      go_wp2
      go_ret
      exact ⟨by rw [HF.out]; rfl, (by repeat (first | exact gb_refl _ _ | refine gb_drewN ?_ _ | refine gb_drew ?_ | refine gb_alloc ?_ _))⟩
  · have f1 : (x.th == y.th) = false := by simp [h1]
    have HF := Lib.hid (show o = false by rw [HO.out]; simp [h1])
    clear h1 HO
    go_enter Try.func38, Try.ntmps38
    go_wp2
    go_ret
    exact ⟨by rw [HF.out]; rfl, (by repeat (first | exact gb_refl _ _ | refine gb_drewN ?_ _ | refine gb_drew ?_ | refine gb_alloc ?_ _))⟩
end Go.Proofs.Ytkidkhjpijjphaa.hs

/- The document's own answer of chapter 17: Right. -/
namespace Go.Proofs.Ytkidkhjpijjphaa.hs
open Go Go.RowKit Go.Proofs.Ytkidkhjpijjphaa.base Go.Maps
set_option linter.unusedVariables false
set_option maxRecDepth 100000

theorem eqb_swap (x y : Int) : (x == y) = decide (y = x) := by
  by_cases h : x = y
  · subst h
    simp
  · have h' : ¬ y = x := fun e => h e.symm
    rw [decide_eq_false h']
    simpa using h
theorem may_open (e : Evs) (k : Nat) (h : opB e (lastI e k (e k).th) k = true) : may e k = (decide (2 ≤ (e k).k) && decide ((e k).k ≤ 6) && ownE (e (lastI e k (e k).th).toNat) (e k)) := by
  unfold opB at h
  rw [Bool.and_eq_true, decide_eq_true_eq] at h
  have ho := opn_ref e k (e k).th
  rw [if_pos h] at ho
  unfold may
  rw [ho]
  have ht := (opn_spec e _ _ _ ho).2.2.1
  generalize (lastI e k (e k).th).toNat = b at *
  unfold ownE
  simp only [ht, decide_true, Bool.true_and]
  rw [eqb_swap (e k).tx, eqb_swap (e k).at_, Bool.and_assoc, Bool.and_assoc]
theorem may_shut (e : Evs) (k : Nat) (h : opB e (lastI e k (e k).th) k = false) : may e k = (((e k).k == 1 && (e k).at_ == IntKind.i64.wrap (cnt e k (e k).th (e k).tx + 1)) || (e k).k == 7) := by
  unfold opB at h
  have ho := opn_ref e k (e k).th
  rw [if_neg (by rintro ⟨h1, h2⟩; simp [h1, h2] at h)] at ho
  unfold may
  rw [ho]

theorem right_no (e : Evs) {k len : Nat} (h : k < len) (hm : may e k = false) : right e len = false := by
  cases hr : right e len with
  | false => rfl
  | true => rw [right_may e hr h] at hm; cases hm

set_option maxHeartbeats 8000000 in
theorem right_doc (a : Option Addr) (len cap : Nat) (e : Evs) (w : World) (hl : IsEvs w a len e) (hlen : len ≤ 1000000) :
    Calls Try.prog 22 #[.slice a len cap] w fun r w' => r = .returned (.bool (right e len)) ∧ Hid (w.grownBy w' none) := by
  have HL := Lib.hid hl
  have HLEN := Lib.hid hlen
  clear hl hlen
  go_enter Try.func22, Try.ntmps22
  go_wp2_with fail
  go_loopw [3] (fun iv wr => ∃ k : Nat, k ≤ len ∧ iv = .int .i64 k ∧ Hid (right e k = true) ∧ Hid (w.grownBy wr none)) (fun iv _ => (len - intOf iv).toNat)
  case atStart => exact ⟨0, by omega, rfl, rfl, gb_refl _ _⟩
  case round =>
    obtain ⟨k, hk, rfl, HR, G⟩ := hrel
    by_cases hlt : k < len
    · obtain ⟨eb, off, rfl, heb, fe0⟩ := evsAt (HL.out.grown G.out) (show 0 < len by omega)
      have FE := Lib.hid fe0
      obtain ⟨c0, c1, c2, c3, c4, c5, c6⟩ := fe0 k hlt
      clear fe0
      have hlt' : (k : Int) < (len : Int) := by omega
      have hlk : (k : Int) < 1000000 := by have := HLEN.out; omega
      have MO := Lib.hid (may_open e k)
      have MS := Lib.hid (may_shut e k)
      have NO := Lib.hid (fun h => right_no e hlt h)
      have YES := Lib.hid (show may e k = true → right e (k + 1) = true from fun h => by rw [right, HR.out, h]; rfl)
      have hL1 := lastI_lt e k (e k).th
      have LA := Lib.hid (fun u h => last_any u (some ⟨eb, off, none⟩) len cap e k (e k).th h (by omega) (by have := HLEN.out; omega))
      generalize lastI e k (e k).th = LI at *
      obtain ⟨hLa, hLb⟩ := hL1
      have OA := Lib.hid (fun u h => open_any u (some ⟨eb, off, none⟩) len cap e LI k h hLa hLb (by omega) (by have := HLEN.out; omega))
      have PO := Lib.hid (show opB e LI k = true → 0 ≤ LI from fun h => by unfold opB at h; rw [Bool.and_eq_true, decide_eq_true_eq] at h; exact h.1)
      generalize opB e LI k = o at *
      have E1 := Lib.hid (Blk.made wr 51 #[.int .i64 ((e k).k), .int .i64 ((e k).th), .int .i64 ((e k).tx), .int .i64 ((e k).at_), .int .i64 ((e k).ob), .int .i64 ((e k).va), .int .i64 ((e k).re)])
      have G1 := Lib.hid (gb_alloc G.out (.cells #[.int .i64 ((e k).k), .int .i64 ((e k).th), .int .i64 ((e k).tx), .int .i64 ((e k).at_), .int .i64 ((e k).ob), .int .i64 ((e k).va), .int .i64 ((e k).re)] 51))
      go_upto_region 5 with fail
      generalize wr.alloc (.cells #[.int .i64 ((e k).k), .int .i64 ((e k).th), .int .i64 ((e k).tx), .int .i64 ((e k).at_), .int .i64 ((e k).ob), .int .i64 ((e k).va), .int .i64 ((e k).re)] 51) = v at *
      generalize wr.heap.size = p at *
      have p_lt := E1.out.lt
      have x0 : v.cell? ⟨p, 0, none⟩ = some (.int .i64 (e k).k) := E1.out.cell 0; have x1 : v.cell? ⟨p, 1, none⟩ = some (.int .i64 (e k).th) := E1.out.cell 1; have x2 : v.cell? ⟨p, 2, none⟩ = some (.int .i64 (e k).tx) := E1.out.cell 2; have x3 : v.cell? ⟨p, 3, none⟩ = some (.int .i64 (e k).at_) := E1.out.cell 3; have x4 : v.cell? ⟨p, 4, none⟩ = some (.int .i64 (e k).ob) := E1.out.cell 4; have x5 : v.cell? ⟨p, 5, none⟩ = some (.int .i64 (e k).va) := E1.out.cell 5; have x6 : v.cell? ⟨p, 6, none⟩ = some (.int .i64 (e k).re) := E1.out.cell 6
      clear c0 c1 c2 c3 c4 c5 c6
      by_cases h1 : (e k).k = 1
      · have f1 : ((e k).k == 1) = true := by simp [h1]
        have W1 := Lib.hid h1
        clear h1
        go_upto_region 10 with (first | (go_at_call 36; refine (LA.out _ (HL.out.grown G1.out)).mono ?_; rintro r u1 ⟨rfl, g1⟩; have E2 := Lib.hid (E1.out.grown g1.out (by simp)); have G2 := Lib.hid (gb_trans G1.out g1.out)) | (go_at_call 37; refine (OA.out _ (HL.out.grown G2.out)).mono ?_; rintro r u2 ⟨rfl, g2⟩; have E3 := Lib.hid (E2.out.grown g2.out (by simp)); have G3 := Lib.hid (gb_trans G2.out g2.out); have p3 := E3.out.lt; have y0 : u2.cell? ⟨p, 0, none⟩ = some (.int .i64 (e k).k) := E3.out.cell 0; have y1 : u2.cell? ⟨p, 1, none⟩ = some (.int .i64 (e k).th) := E3.out.cell 1; have y2 : u2.cell? ⟨p, 2, none⟩ = some (.int .i64 (e k).tx) := E3.out.cell 2; have y3 : u2.cell? ⟨p, 3, none⟩ = some (.int .i64 (e k).at_) := E3.out.cell 3; have y4 : u2.cell? ⟨p, 4, none⟩ = some (.int .i64 (e k).ob) := E3.out.cell 4; have y5 : u2.cell? ⟨p, 5, none⟩ = some (.int .i64 (e k).va) := E3.out.cell 5; have y6 : u2.cell? ⟨p, 6, none⟩ = some (.int .i64 (e k).re) := E3.out.cell 6) | go_in)
        go_wp2
        clear x0 x1 x2 x3 x4 x5 x6 E1 E2 G1 G2 g1 g2 LA OA
        go_loopw [7, 8] (fun nv iv wr => ∃ j : Nat, j ≤ k ∧ iv = .int .i64 j ∧ nv = .int .i64 (cnt e j (e k).th (e k).tx) ∧ Hid (u2.grownBy wr none)) (fun _ iv _ => (k - intOf iv).toNat)
        case atStart => exact ⟨0, by omega, rfl, rfl, gb_refl _ _⟩
        case round =>
          obtain ⟨j, hj, rfl, rfl, GJ⟩ := hrel
          have EJ := Lib.hid (E3.out.grown GJ.out (by simp))
          have z0 : wr.cell? ⟨p, 0, none⟩ = some (.int .i64 (e k).k) := EJ.out.cell 0; have z1 : wr.cell? ⟨p, 1, none⟩ = some (.int .i64 (e k).th) := EJ.out.cell 1; have z2 : wr.cell? ⟨p, 2, none⟩ = some (.int .i64 (e k).tx) := EJ.out.cell 2; have z3 : wr.cell? ⟨p, 3, none⟩ = some (.int .i64 (e k).at_) := EJ.out.cell 3; have z4 : wr.cell? ⟨p, 4, none⟩ = some (.int .i64 (e k).ob) := EJ.out.cell 4; have z5 : wr.cell? ⟨p, 5, none⟩ = some (.int .i64 (e k).va) := EJ.out.cell 5; have z6 : wr.cell? ⟨p, 6, none⟩ = some (.int .i64 (e k).re) := EJ.out.cell 6
          by_cases hjk : j < k
          · have hjk' : (j : Int) < (k : Int) := by omega
            have hjl : (j : Int) < (len : Int) := by omega
            have hj2 : (j : Int) < 1000000 := by omega
            have GG := Lib.hid (gb_trans G3.out GJ.out)
            obtain ⟨c0, c1, c2, c3, c4, c5, c6⟩ := evsIn (HL.out.grown GG.out) (show j < len by omega)
            have hcn := Lib.hid (show cnt e (j + 1) (e k).th (e k).tx = if (e j).k = 1 ∧ (e j).th = (e k).th ∧ (e j).tx = (e k).tx then (e j).at_ else cnt e j (e k).th (e k).tx from rfl)
            generalize cnt e j (e k).th (e k).tx = C0 at *
            by_cases q1 : (e j).k = 1
            · have r1 : ((e j).k == 1) = true := by simp [q1]
              by_cases q2 : (e j).th = (e k).th
              · have r2 : ((e j).th == (e k).th) = true := by simp [q2]
                by_cases q3 : (e j).tx = (e k).tx
                · have r3 : ((e j).tx == (e k).tx) = true := by simp [q3]
                  have HC := Lib.hid (show cnt e (j + 1) (e k).th (e k).tx = (e j).at_ by rw [hcn.out, if_pos ⟨q1, q2, q3⟩])
                  clear q1 q2 q3; go_wp2_with fail; go_big_quiet (fail); go_wp2; go_roundw; (case rel => exact ⟨j + 1, by omega, by go_num, by rw [HC.out], gb_drewN GJ.out _⟩); (case measure => simp [intOf] <;> omega)
                · have r3 : ((e j).tx == (e k).tx) = false := by simp [q3]
                  have HC := Lib.hid (show cnt e (j + 1) (e k).th (e k).tx = C0 by rw [hcn.out, if_neg (fun h => q3 h.2.2)])
                  clear q1 q2 q3; go_wp2_with fail; go_big_quiet (fail); go_wp2; go_roundw; (case rel => exact ⟨j + 1, by omega, by go_num, by rw [HC.out], gb_drewN GJ.out _⟩); (case measure => simp [intOf] <;> omega)
              · have r2 : ((e j).th == (e k).th) = false := by simp [q2]
                have q3 := True.intro
                have HC := Lib.hid (show cnt e (j + 1) (e k).th (e k).tx = C0 by rw [hcn.out, if_neg (fun h => q2 h.2.1)])
                clear q1 q2 q3; go_wp2_with fail; go_big_quiet (fail); go_wp2; go_roundw; (case rel => exact ⟨j + 1, by omega, by go_num, by rw [HC.out], gb_drewN GJ.out _⟩); (case measure => simp [intOf] <;> omega)
            · have r1 : ((e j).k == 1) = false := by simp [q1]
              have q2 := True.intro
              have q3 := True.intro
              have HC := Lib.hid (show cnt e (j + 1) (e k).th (e k).tx = C0 by rw [hcn.out, if_neg (fun h => q1 h.1)])
              clear q1 q2 q3; go_wp2_with fail; go_big_quiet (fail); go_wp2; go_roundw; (case rel => exact ⟨j + 1, by omega, by go_num, by rw [HC.out], gb_drewN GJ.out _⟩); (case measure => simp [intOf] <;> omega)
          · obtain rfl : j = k := by omega
            cases o with
            | true =>
              have HM := Lib.hid (NO.out (by rw [MO.out rfl, W1.out]; rfl))
              go_wp2
              go_ret
              exact ⟨by rw [HM.out]; rfl, gb_trans G3.out GJ.out⟩
            | false =>
              have HS := Lib.hid (MS.out rfl)
              generalize cnt e j (e j).th (e j).tx = CN at *
              have HT := Lib.hid hjk
              obtain ⟨WN, hWN⟩ : ∃ WN, IntKind.i64.wrap (CN + 1) = WN := ⟨_, rfl⟩
              rw [hWN] at HS
              clear hjk hj hLb hLa MO MS
              by_cases q4 : (e j).at_ = WN
              · have r4 : ((e j).at_ != WN) = false := by simp [q4]
                have HM := Lib.hid (YES.out (by rw [HS.out, W1.out, q4]; simp))
                clear q4
                go_wp2
                go_roundw
                case rel => exact ⟨j + 1, by omega, by go_num, HM, gb_trans G3.out GJ.out⟩
                case measure => simp [intOf] <;> omega
              · have r4 : ((e j).at_ != WN) = true := by simp [q4]
                have HM := Lib.hid (NO.out (by rw [HS.out, W1.out]; simp [q4]))
                clear q4
                go_wp2
                go_ret
                exact ⟨by rw [HM.out]; rfl, gb_trans G3.out GJ.out⟩
      · have f1 : ((e k).k == 1) = false := by simp [h1]
        by_cases h7 : (e k).k = 7
        · have f7 : ((e k).k == 7) = true := by simp [h7]
          have W7 := Lib.hid h7
          clear h1 h7
          cases o with
          | true =>
            have HM := Lib.hid (NO.out (by rw [MO.out rfl, W7.out]; rfl))
            go_wp2_with (first | (go_at_call 36; refine (LA.out _ (HL.out.grown G1.out)).mono ?_; rintro r u1 ⟨rfl, g1⟩; have E2 := Lib.hid (E1.out.grown g1.out (by simp)); have G2 := Lib.hid (gb_trans G1.out g1.out)) | (go_at_call 37; refine (OA.out _ (HL.out.grown G2.out)).mono ?_; rintro r u2 ⟨rfl, g2⟩; have E3 := Lib.hid (E2.out.grown g2.out (by simp)); have G3 := Lib.hid (gb_trans G2.out g2.out); have p3 := E3.out.lt; have y0 : u2.cell? ⟨p, 0, none⟩ = some (.int .i64 (e k).k) := E3.out.cell 0; have y1 : u2.cell? ⟨p, 1, none⟩ = some (.int .i64 (e k).th) := E3.out.cell 1; have y2 : u2.cell? ⟨p, 2, none⟩ = some (.int .i64 (e k).tx) := E3.out.cell 2; have y3 : u2.cell? ⟨p, 3, none⟩ = some (.int .i64 (e k).at_) := E3.out.cell 3; have y4 : u2.cell? ⟨p, 4, none⟩ = some (.int .i64 (e k).ob) := E3.out.cell 4; have y5 : u2.cell? ⟨p, 5, none⟩ = some (.int .i64 (e k).va) := E3.out.cell 5; have y6 : u2.cell? ⟨p, 6, none⟩ = some (.int .i64 (e k).re) := E3.out.cell 6) | go_in)
            go_ret
            exact ⟨by rw [HM.out]; rfl, G3.out⟩
          | false =>
            have HM := Lib.hid (YES.out (by rw [MS.out rfl, W7.out]; simp))
            go_wp2_with (first | (go_at_call 36; refine (LA.out _ (HL.out.grown G1.out)).mono ?_; rintro r u1 ⟨rfl, g1⟩; have E2 := Lib.hid (E1.out.grown g1.out (by simp)); have G2 := Lib.hid (gb_trans G1.out g1.out)) | (go_at_call 37; refine (OA.out _ (HL.out.grown G2.out)).mono ?_; rintro r u2 ⟨rfl, g2⟩; have E3 := Lib.hid (E2.out.grown g2.out (by simp)); have G3 := Lib.hid (gb_trans G2.out g2.out); have p3 := E3.out.lt; have y0 : u2.cell? ⟨p, 0, none⟩ = some (.int .i64 (e k).k) := E3.out.cell 0; have y1 : u2.cell? ⟨p, 1, none⟩ = some (.int .i64 (e k).th) := E3.out.cell 1; have y2 : u2.cell? ⟨p, 2, none⟩ = some (.int .i64 (e k).tx) := E3.out.cell 2; have y3 : u2.cell? ⟨p, 3, none⟩ = some (.int .i64 (e k).at_) := E3.out.cell 3; have y4 : u2.cell? ⟨p, 4, none⟩ = some (.int .i64 (e k).ob) := E3.out.cell 4; have y5 : u2.cell? ⟨p, 5, none⟩ = some (.int .i64 (e k).va) := E3.out.cell 5; have y6 : u2.cell? ⟨p, 6, none⟩ = some (.int .i64 (e k).re) := E3.out.cell 6) | go_in)
            go_roundw
            case rel => exact ⟨k + 1, by omega, by go_num, HM, G3⟩
            case measure => simp [intOf] <;> omega
        · have f7 : ((e k).k == 7) = false := by simp [h7]
          by_cases h2 : 2 ≤ (e k).k
          · have f2 : decide (2 ≤ (e k).k) = true := by simp [h2]
            by_cases h6 : (e k).k ≤ 6
            · have f6 : decide ((e k).k ≤ 6) = true := by simp [h6]
              cases o with
              | false =>
                have HM := Lib.hid (NO.out (by rw [MS.out rfl]; simp [h1, h7]))
                clear h1 h7 h2 h6
                go_wp2_with (first | (go_at_call 36; refine (LA.out _ (HL.out.grown G1.out)).mono ?_; rintro r u1 ⟨rfl, g1⟩; have E2 := Lib.hid (E1.out.grown g1.out (by simp)); have G2 := Lib.hid (gb_trans G1.out g1.out)) | (go_at_call 37; refine (OA.out _ (HL.out.grown G2.out)).mono ?_; rintro r u2 ⟨rfl, g2⟩; have E3 := Lib.hid (E2.out.grown g2.out (by simp)); have G3 := Lib.hid (gb_trans G2.out g2.out); have p3 := E3.out.lt; have y0 : u2.cell? ⟨p, 0, none⟩ = some (.int .i64 (e k).k) := E3.out.cell 0; have y1 : u2.cell? ⟨p, 1, none⟩ = some (.int .i64 (e k).th) := E3.out.cell 1; have y2 : u2.cell? ⟨p, 2, none⟩ = some (.int .i64 (e k).tx) := E3.out.cell 2; have y3 : u2.cell? ⟨p, 3, none⟩ = some (.int .i64 (e k).at_) := E3.out.cell 3; have y4 : u2.cell? ⟨p, 4, none⟩ = some (.int .i64 (e k).ob) := E3.out.cell 4; have y5 : u2.cell? ⟨p, 5, none⟩ = some (.int .i64 (e k).va) := E3.out.cell 5; have y6 : u2.cell? ⟨p, 6, none⟩ = some (.int .i64 (e k).re) := E3.out.cell 6) | go_in)
                go_big_quiet (fail)
                go_wp2
                go_ret
                exact ⟨by rw [HM.out]; rfl, gb_drewN G3.out _⟩
              | true =>
                have HM := Lib.hid (MO.out rfl)
                rw [f2, f6, Bool.true_and, Bool.true_and] at HM
                obtain ⟨b, rfl⟩ : ∃ b : Nat, LI = b := ⟨LI.toNat, by have := PO.out rfl; omega⟩
                rw [Int.toNat_natCast] at HM
                have hbk : (b : Int) < (len : Int) := by omega
                have hb6 : (b : Int) < 1000000 := by omega
                clear h1 h7 h2 h6 MO MS PO
                have OW := Lib.hid (own_any (e b) (e k))
                generalize ownE (e b) (e k) = q at *
                go_upto_region 21 with (first | (go_at_call 36; refine (LA.out _ (HL.out.grown G1.out)).mono ?_; rintro r u1 ⟨rfl, g1⟩; have E2 := Lib.hid (E1.out.grown g1.out (by simp)); have G2 := Lib.hid (gb_trans G1.out g1.out)) | (go_at_call 37; refine (OA.out _ (HL.out.grown G2.out)).mono ?_; rintro r u2 ⟨rfl, g2⟩; have E3 := Lib.hid (E2.out.grown g2.out (by simp)); have G3 := Lib.hid (gb_trans G2.out g2.out); have p3 := E3.out.lt; have y0 : u2.cell? ⟨p, 0, none⟩ = some (.int .i64 (e k).k) := E3.out.cell 0; have y1 : u2.cell? ⟨p, 1, none⟩ = some (.int .i64 (e k).th) := E3.out.cell 1; have y2 : u2.cell? ⟨p, 2, none⟩ = some (.int .i64 (e k).tx) := E3.out.cell 2; have y3 : u2.cell? ⟨p, 3, none⟩ = some (.int .i64 (e k).at_) := E3.out.cell 3; have y4 : u2.cell? ⟨p, 4, none⟩ = some (.int .i64 (e k).ob) := E3.out.cell 4; have y5 : u2.cell? ⟨p, 5, none⟩ = some (.int .i64 (e k).va) := E3.out.cell 5; have y6 : u2.cell? ⟨p, 6, none⟩ = some (.int .i64 (e k).re) := E3.out.cell 6) | go_in)
                obtain ⟨d0, d1, d2, d3, d4, d5, d6⟩ := evsIn (HL.out.grown G3.out) (show b < len by omega)
                clear x0 x1 x2 x3 x4 x5 x6
                cases q with
                | true =>
                  have HY := Lib.hid (YES.out HM.out)
                  go_region_held3 (fun w' => w'.cell? ⟨eb, off + b * 7, none⟩ = some (.int .i64 (e b).k) ∧ w'.cell? ⟨eb, off + b * 7 + 1, none⟩ = some (.int .i64 (e b).th) ∧ w'.cell? ⟨eb, off + b * 7 + 2, none⟩ = some (.int .i64 (e b).tx) ∧ w'.cell? ⟨eb, off + b * 7 + 3, none⟩ = some (.int .i64 (e b).at_) ∧ w'.cell? ⟨eb, off + b * 7 + 4, none⟩ = some (.int .i64 (e b).ob) ∧ w'.cell? ⟨eb, off + b * 7 + 5, none⟩ = some (.int .i64 (e b).va) ∧ w'.cell? ⟨eb, off + b * 7 + 6, none⟩ = some (.int .i64 (e b).re) ∧ w'.cell? ⟨p, 0, none⟩ = some (.int .i64 ((e k).k)) ∧ w'.cell? ⟨p, 1, none⟩ = some (.int .i64 ((e k).th)) ∧ w'.cell? ⟨p, 2, none⟩ = some (.int .i64 ((e k).tx)) ∧ w'.cell? ⟨p, 3, none⟩ = some (.int .i64 ((e k).at_)) ∧ w'.cell? ⟨p, 4, none⟩ = some (.int .i64 ((e k).ob)) ∧ w'.cell? ⟨p, 5, none⟩ = some (.int .i64 ((e k).va)) ∧ w'.cell? ⟨p, 6, none⟩ = some (.int .i64 ((e k).re))) (go_keep) ((go_at_call 38; refine (OW.out _).mono ?_; rintro r u3 ⟨rfl, g3⟩; have m0 := g3.out.cell d0 (by simp); have m1 := g3.out.cell d1 (by simp); have m2 := g3.out.cell d2 (by simp); have m3 := g3.out.cell d3 (by simp); have m4 := g3.out.cell d4 (by simp); have m5 := g3.out.cell d5 (by simp); have m6 := g3.out.cell d6 (by simp); have n0 := g3.out.cell y0 (by simp); have n1 := g3.out.cell y1 (by simp); have n2 := g3.out.cell y2 (by simp); have n3 := g3.out.cell y3 (by simp); have n4 := g3.out.cell y4 (by simp); have n5 := g3.out.cell y5 (by simp); have n6 := g3.out.cell y6 (by simp)))
                  go_wp2
                  go_roundw
                  case rel => exact ⟨k + 1, by omega, by go_num, HY, gb_trans (gb_drew G3.out) g3.out⟩
                  case measure => simp [intOf] <;> omega
                | false =>
                  have HY := Lib.hid (NO.out HM.out)
                  go_region_held3 (fun w' => w'.cell? ⟨eb, off + b * 7, none⟩ = some (.int .i64 (e b).k) ∧ w'.cell? ⟨eb, off + b * 7 + 1, none⟩ = some (.int .i64 (e b).th) ∧ w'.cell? ⟨eb, off + b * 7 + 2, none⟩ = some (.int .i64 (e b).tx) ∧ w'.cell? ⟨eb, off + b * 7 + 3, none⟩ = some (.int .i64 (e b).at_) ∧ w'.cell? ⟨eb, off + b * 7 + 4, none⟩ = some (.int .i64 (e b).ob) ∧ w'.cell? ⟨eb, off + b * 7 + 5, none⟩ = some (.int .i64 (e b).va) ∧ w'.cell? ⟨eb, off + b * 7 + 6, none⟩ = some (.int .i64 (e b).re) ∧ w'.cell? ⟨p, 0, none⟩ = some (.int .i64 ((e k).k)) ∧ w'.cell? ⟨p, 1, none⟩ = some (.int .i64 ((e k).th)) ∧ w'.cell? ⟨p, 2, none⟩ = some (.int .i64 ((e k).tx)) ∧ w'.cell? ⟨p, 3, none⟩ = some (.int .i64 ((e k).at_)) ∧ w'.cell? ⟨p, 4, none⟩ = some (.int .i64 ((e k).ob)) ∧ w'.cell? ⟨p, 5, none⟩ = some (.int .i64 ((e k).va)) ∧ w'.cell? ⟨p, 6, none⟩ = some (.int .i64 ((e k).re))) (go_keep) ((go_at_call 38; refine (OW.out _).mono ?_; rintro r u3 ⟨rfl, g3⟩; have m0 := g3.out.cell d0 (by simp); have m1 := g3.out.cell d1 (by simp); have m2 := g3.out.cell d2 (by simp); have m3 := g3.out.cell d3 (by simp); have m4 := g3.out.cell d4 (by simp); have m5 := g3.out.cell d5 (by simp); have m6 := g3.out.cell d6 (by simp); have n0 := g3.out.cell y0 (by simp); have n1 := g3.out.cell y1 (by simp); have n2 := g3.out.cell y2 (by simp); have n3 := g3.out.cell y3 (by simp); have n4 := g3.out.cell y4 (by simp); have n5 := g3.out.cell y5 (by simp); have n6 := g3.out.cell y6 (by simp)))
                  go_wp2
                  go_ret
                  exact ⟨by rw [HY.out]; rfl, gb_trans (gb_drew G3.out) g3.out⟩
            · have f6 : decide ((e k).k ≤ 6) = false := by simpa using h6
              have HM := Lib.hid (NO.out (by cases o with | true => rw [MO.out rfl, f6]; simp | false => rw [MS.out rfl]; simp [h1, h7]))
              clear h1 h7 h2 h6
              go_wp2_with (first | (go_at_call 36; refine (LA.out _ (HL.out.grown G1.out)).mono ?_; rintro r u1 ⟨rfl, g1⟩; have E2 := Lib.hid (E1.out.grown g1.out (by simp)); have G2 := Lib.hid (gb_trans G1.out g1.out)) | (go_at_call 37; refine (OA.out _ (HL.out.grown G2.out)).mono ?_; rintro r u2 ⟨rfl, g2⟩; have E3 := Lib.hid (E2.out.grown g2.out (by simp)); have G3 := Lib.hid (gb_trans G2.out g2.out); have p3 := E3.out.lt; have y0 : u2.cell? ⟨p, 0, none⟩ = some (.int .i64 (e k).k) := E3.out.cell 0; have y1 : u2.cell? ⟨p, 1, none⟩ = some (.int .i64 (e k).th) := E3.out.cell 1; have y2 : u2.cell? ⟨p, 2, none⟩ = some (.int .i64 (e k).tx) := E3.out.cell 2; have y3 : u2.cell? ⟨p, 3, none⟩ = some (.int .i64 (e k).at_) := E3.out.cell 3; have y4 : u2.cell? ⟨p, 4, none⟩ = some (.int .i64 (e k).ob) := E3.out.cell 4; have y5 : u2.cell? ⟨p, 5, none⟩ = some (.int .i64 (e k).va) := E3.out.cell 5; have y6 : u2.cell? ⟨p, 6, none⟩ = some (.int .i64 (e k).re) := E3.out.cell 6) | go_in)
              go_ret
              exact ⟨by rw [HM.out]; rfl, G3.out⟩
          · have f2 : decide (2 ≤ (e k).k) = false := by simpa using h2
            have HM := Lib.hid (NO.out (by cases o with | true => rw [MO.out rfl, f2]; simp | false => rw [MS.out rfl]; simp [h1, h7]))
            clear h1 h7 h2
            go_wp2_with (first | (go_at_call 36; refine (LA.out _ (HL.out.grown G1.out)).mono ?_; rintro r u1 ⟨rfl, g1⟩; have E2 := Lib.hid (E1.out.grown g1.out (by simp)); have G2 := Lib.hid (gb_trans G1.out g1.out)) | (go_at_call 37; refine (OA.out _ (HL.out.grown G2.out)).mono ?_; rintro r u2 ⟨rfl, g2⟩; have E3 := Lib.hid (E2.out.grown g2.out (by simp)); have G3 := Lib.hid (gb_trans G2.out g2.out); have p3 := E3.out.lt; have y0 : u2.cell? ⟨p, 0, none⟩ = some (.int .i64 (e k).k) := E3.out.cell 0; have y1 : u2.cell? ⟨p, 1, none⟩ = some (.int .i64 (e k).th) := E3.out.cell 1; have y2 : u2.cell? ⟨p, 2, none⟩ = some (.int .i64 (e k).tx) := E3.out.cell 2; have y3 : u2.cell? ⟨p, 3, none⟩ = some (.int .i64 (e k).at_) := E3.out.cell 3; have y4 : u2.cell? ⟨p, 4, none⟩ = some (.int .i64 (e k).ob) := E3.out.cell 4; have y5 : u2.cell? ⟨p, 5, none⟩ = some (.int .i64 (e k).va) := E3.out.cell 5; have y6 : u2.cell? ⟨p, 6, none⟩ = some (.int .i64 (e k).re) := E3.out.cell 6) | go_in)
            go_ret
            exact ⟨by rw [HM.out]; rfl, G3.out⟩
    · obtain rfl : k = len := by omega
      go_wp2
      go_ret
      exact ⟨by rw [HR.out]; rfl, G.out⟩
end Go.Proofs.Ytkidkhjpijjphaa.hs

/- The document's own tries of chapter 17: plain facts. -/
namespace Go.Proofs.Ytkidkhjpijjphaa.hs
open Go Go.RowKit Go.Proofs.Ytkidkhjpijjphaa.base Go.Maps
set_option linter.unusedVariables false
set_option maxRecDepth 100000

theorem wp_pcs {P : Program} {c c' : Code} {Q : Exit → Act → World → Prop} {a : Act} {w : World} (h : c = c') (hw : Code.wp P c' Q a w) : Code.wp P c Q a w := h ▸ hw
theorem own_flip {w0 w : World} {A B : Blks} (h : base.Own w0 w (A ++ B)) : base.Own w0 w (B ++ A) := h.perm List.perm_append_comm
theorem owns_zero {base : Nat} {e : TypeId} {sz : Nat} {w : World} {v : Value} {n : Nat} {xs : List Value} (h : w.ownsRow base e sz v n xs) : w.ownsRow 0 e sz v n xs := by
  refine ⟨h.1, ?_⟩
  rcases h.2 with h | ⟨g, cap, cur, h1, _, h3⟩
  · exact .inl h
  · exact .inr ⟨g, cap, cur, h1, Nat.zero_le _, h3⟩

/-- What the document's loop does to a try at a place. -/
theorem doc_step (e : Evs) {len b k : Nat} (hr : right e len = true) (hk1 : (e b).k = 1) (hbk : b < k) (hkl : k < len) (hen : (trAt e b k).en < 0) : trAt e b (k + 1) = if ownE (e b) (e k) = true then base.stepT (trAt e b k) k (e k) else trAt e b k := by
  have h1 := docAt_eq e b hk1 (k + 1) (right_le e hr (k + 1) hkl)
  have h0 := docAt_eq e b hk1 k (right_le e hr k (by omega))
  rw [docAt, h0] at h1
  rw [← h1]
  by_cases h : ownE (e b) (e k) = true
  · rw [if_pos ⟨hbk, h, hen⟩, if_pos h]
  · rw [if_neg (fun h2 => h h2.2.1), if_neg h]

theorem stepT_2 (t : Tr) (i : Nat) {e : Ev} (h : e.k = 2) : base.stepT t i e = { t with ac := t.ac ++ [⟨i, 2, e.ob, e.va, wrote t.ac e.ob, false⟩] } := by unfold base.stepT; rw [if_pos h]
theorem stepT_3 (t : Tr) (i : Nat) {e : Ev} (h : e.k = 3) : base.stepT t i e = { t with ac := t.ac ++ [⟨i, 3, e.ob, e.va, false, false⟩] } := by unfold base.stepT; rw [if_neg (by omega), if_pos h]
theorem stepT_4 (t : Tr) (i : Nat) {e : Ev} (h : e.k = 4) : base.stepT t i e = { t with ac := relAll t.ac e.ob } := by unfold base.stepT; rw [if_neg (by omega), if_neg (by omega), if_pos h]
theorem stepT_5 (t : Tr) (i : Nat) {e : Ev} (h : e.k = 5) : base.stepT t i e = { t with en := i, co := true } := by unfold base.stepT; rw [if_neg (by omega), if_neg (by omega), if_neg (by omega), if_pos h]
theorem stepT_6 (t : Tr) (i : Nat) {e : Ev} (h : e.k = 6) : base.stepT t i e = { t with en := i, re := e.re } := by unfold base.stepT; rw [if_neg (by omega), if_neg (by omega), if_neg (by omega), if_neg (by omega), if_pos h]
theorem stepT_no (t : Tr) (i : Nat) {e : Ev} (h2 : e.k ≠ 2) (h3 : e.k ≠ 3) (h4 : e.k ≠ 4) (h5 : e.k ≠ 5) (h6 : e.k ≠ 6) : base.stepT t i e = t := by unfold base.stepT; rw [if_neg h2, if_neg h3, if_neg h4, if_neg h5, if_neg h6]

theorem wrote_take {l : List Acc} {n : Nat} {a : Acc} (h : l[n]? = some a) (o : Int) : wrote (l.take (n + 1)) o = (wrote (l.take n) o || (decide (a.k = 3) && decide (a.ob = o))) := by
  rw [List.take_add_one, h]
  simp [wrote]
theorem wrote_all (l : List Acc) (o : Int) : wrote (l.take l.length) o = wrote l o := by rw [List.take_length]
theorem wrote_zero (l : List Acc) (o : Int) : wrote (l.take 0) o = false := rfl

/-- The readings of an object among the first n accesses are released. -/
def relN (l : List Acc) (o : Int) (n : Nat) : List Acc := (l.take n).map (Acc.free o) ++ l.drop n
theorem relN_zero (l : List Acc) (o : Int) : relN l o 0 = l := by simp [relN]
theorem relN_all (l : List Acc) (o : Int) : relN l o l.length = relAll l o := by simp [relN, relAll]
theorem relN_len (l : List Acc) (o : Int) (n : Nat) : (relN l o n).length = l.length := by simp [relN]; omega
theorem relN_get {l : List Acc} {o : Int} {n : Nat} (h : n < l.length) : (relN l o n)[n]? = some l[n] := by
  unfold relN
  rw [List.getElem?_append_right (by simp; omega)]
  simp [Nat.min_eq_left (Nat.le_of_lt h)]
theorem setRel_mid (x : Acc) (B : List Acc) : ∀ A : List Acc, setRel (A ++ x :: B) A.length = A ++ { x with rel := true } :: B
  | [] => by simp [setRel]
  | a :: A => by
    rw [List.cons_append, List.length_cons, setRel_cons, setRel_mid x B A]
    rfl
theorem relN_step {l : List Acc} {o : Int} {n : Nat} (h : n < l.length) : relN l o (n + 1) = if l[n].k = 2 ∧ l[n].ob = o then setRel (relN l o n) n else relN l o n := by
  have e1 : relN l o (n + 1) = (l.take n).map (Acc.free o) ++ Acc.free o l[n] :: l.drop (n + 1) := by
    unfold relN
    rw [List.take_add_one, List.getElem?_eq_getElem h, List.map_append, List.append_assoc]
    rfl
  have e2 : relN l o n = (l.take n).map (Acc.free o) ++ l[n] :: l.drop (n + 1) := by
    unfold relN
    rw [List.drop_eq_getElem_cons h]
  have e3 : ((l.take n).map (Acc.free o)).length = n := by simp; omega
  rw [e1]
  split
  · next hc =>
    rw [e2]
    have e4 := setRel_mid l[n] (l.drop (n + 1)) ((l.take n).map (Acc.free o))
    rw [e3] at e4
    rw [e4]
    simp [Acc.free, hc]
  · next hc =>
    rw [e2]
    simp [Acc.free, hc]

/-- The tries of ys lie there, each with its accesses, wherever. -/
def TsAt (w : World) (a : Option Addr) (ys : List (Tr × Value)) : Prop :=
  (∀ i x, ys[i]? = some x → ∃ b off, a = some ⟨b, off, none⟩ ∧ b < w.heap.size ∧ ∀ j u, (tvC x)[j]? = some u → w.cell? ⟨b, off + i * 9 + j, none⟩ = some u) ∧
  ∀ x ∈ ys, ∃ va vc, x.2 = .slice va x.1.ac.length vc ∧ IsL accC w va x.1.ac
theorem TsAt.grown {w w' : World} {a : Option Addr} {ys : List (Tr × Value)} (h : TsAt w a ys) (g : w.grownBy w' none) : TsAt w' a ys := by
  refine ⟨fun i x hx => ?_, fun x hx => ?_⟩
  · obtain ⟨b, off, h1, h2, h3⟩ := h.1 i x hx
    exact ⟨b, off, h1, Nat.lt_of_lt_of_le h2 g.size, fun j u hu => g.cell (h3 j u hu) (by simp)⟩
  · obtain ⟨va, vc, h1, h2⟩ := h.2 x hx
    exact ⟨va, vc, h1, h2.grown g⟩
theorem TsAt.of_isTries {w : World} {a : Option Addr} {ys : List (Tr × Value)} (h : IsTries w a ys) : TsAt w a ys := by
  obtain ⟨h1, h2⟩ := h
  refine ⟨fun i x hx => ?_, fun x hx => ?_⟩
  · rcases h1 with rfl | ⟨g, rfl, hg, hc⟩
    · simp at hx
    · exact ⟨g, 0, rfl, hg, fun j u hu => by rw [Nat.zero_add]; exact hc i x hx j u hu⟩
  · have h3 := h2 x hx
    obtain ⟨va, vc, hv⟩ := owns_slice h3
    exact ⟨va, vc, hv, IsL.of_own (by rw [← hv]; exact h3) accC_len rfl⟩
theorem TsAt.of_row {w0 w : World} {e : TypeId} {v : Value} {ys : List (Tr × Value)} {L R : Blks} (h : Row tvC 9 e ys v L) (o : base.Own w0 w (L ++ R)) (ha : ∀ x ∈ ys, ∃ va vc, x.2 = .slice va x.1.ac.length vc ∧ IsL accC w va x.1.ac) : ∃ a c, v = .slice a ys.length c ∧ TsAt w a ys := by
  obtain ⟨a, c, hv, hi⟩ := h.isL tvC_len o
  exact ⟨a, c, hv, fun i x hx => hi.at tvC_len hx, ha⟩
/-- The fields of a try, in their cells. -/
theorem TsAt.at {w : World} {a : Option Addr} {ys : List (Tr × Value)} (h : TsAt w a ys) {i : Nat} {x : Tr × Value} (hx : ys[i]? = some x) : ∃ b off va vc, a = some ⟨b, off, none⟩ ∧ b < w.heap.size ∧ x.2 = .slice va x.1.ac.length vc ∧ IsL accC w va x.1.ac ∧
    w.cell? ⟨b, off + i * 9, none⟩ = some (.int .i64 x.1.th) ∧ w.cell? ⟨b, off + i * 9 + 1, none⟩ = some (.int .i64 x.1.tx) ∧ w.cell? ⟨b, off + i * 9 + 2, none⟩ = some (.int .i64 x.1.at_) ∧ w.cell? ⟨b, off + i * 9 + 3, none⟩ = some (.int .i64 x.1.st) ∧ w.cell? ⟨b, off + i * 9 + 4, none⟩ = some (.int .i64 x.1.b) ∧ w.cell? ⟨b, off + i * 9 + 5, none⟩ = some (.int .i64 x.1.en) ∧ w.cell? ⟨b, off + i * 9 + 6, none⟩ = some (.int .i64 x.1.re) ∧ w.cell? ⟨b, off + i * 9 + 7, none⟩ = some (.bool x.1.co) ∧ w.cell? ⟨b, off + i * 9 + 8, none⟩ = some (.slice va x.1.ac.length vc) := by
  obtain ⟨b, off, h1, h2, h3⟩ := h.1 i x hx
  obtain ⟨va, vc, h4, h5⟩ := h.2 x (List.mem_of_getElem? hx)
  exact ⟨b, off, va, vc, h1, h2, h4, h5, h3 0 _ rfl, h3 1 _ rfl, h3 2 _ rfl, h3 3 _ rfl, h3 4 _ rfl, h3 5 _ rfl, h3 6 _ rfl, h3 7 _ rfl, by rw [← h4]; exact h3 8 _ rfl⟩
/-- An access, in its cells. -/
theorem accAt {w : World} {va : Option Addr} {l : List Acc} (h : IsL accC w va l) {j : Nat} {a : Acc} (hj : l[j]? = some a) : ∃ b off, va = some ⟨b, off, none⟩ ∧ b < w.heap.size ∧ w.cell? ⟨b, off + j * 6, none⟩ = some (.int .i64 a.pl) ∧ w.cell? ⟨b, off + j * 6 + 1, none⟩ = some (.int .i64 a.k) ∧ w.cell? ⟨b, off + j * 6 + 2, none⟩ = some (.int .i64 a.ob) ∧ w.cell? ⟨b, off + j * 6 + 3, none⟩ = some (.int .i64 a.va) ∧ w.cell? ⟨b, off + j * 6 + 4, none⟩ = some (.bool a.own) ∧ w.cell? ⟨b, off + j * 6 + 5, none⟩ = some (.bool a.rel) := by
  obtain ⟨b, off, h1, h2, h3⟩ := h.at accC_len hj
  exact ⟨b, off, h1, h2, h3 0 _ rfl, h3 1 _ rfl, h3 2 _ rfl, h3 3 _ rfl, h3 4 _ rfl, h3 5 _ rfl⟩
/-- Accesses of one's own, as long as only others' blocks are written. -/
theorem isL_owns {w : World} {v : Value} {t : Tr} {e : TypeId} {base : Nat} (h : w.ownsRow base e 6 v t.ac.length (rows accC t.ac)) : ∃ va vc, v = .slice va t.ac.length vc ∧ IsL accC w va t.ac := by
  obtain ⟨va, vc, hv⟩ := owns_slice h
  exact ⟨va, vc, hv, IsL.of_own (by rw [← hv]; exact h) accC_len rfl⟩

/-- Rows of two types have no block in common. -/
theorem owns_other {w w' : World} {b1 b2 : Nat} {E1 E2 : TypeId} {s1 s2 n1 n2 : Nat} {v1 v2 : Value} {x1 x2 : List Value} (h1 : w.ownsRow b1 E1 s1 v1 n1 x1) (h2 : w.ownsRow b2 E2 s2 v2 n2 x2) (hne : E1 ≠ E2) (g : w.grownBy w' v2.ownBlock) : w'.ownsRow b1 E1 s1 v1 n1 x1 := by
  refine ownsRow_keep h1 (fun k e => g.block k (h1.lt k e).2 (fun e2 => ?_))
  obtain ⟨cs, hc⟩ := ownsRow_type h1 e
  obtain ⟨ds, hd⟩ := ownsRow_type h2 e2.symm
  rw [hc] at hd
  injection hd with hd
  injection hd with _ hd
  exact hne hd
/-- One more try, and its accesses. -/
theorem acs_snoc {u w w' : World} {E E2 : TypeId} {b2 s2 n2 : Nat} {v2 : Value} {x2 : List Value} {ys : List (Tr × Value)} {x : Tr × Value} {base : Nat} (hy : ∀ y ∈ ys, u.ownsRow 0 E 6 y.2 y.1.ac.length (rows accC y.1.ac)) (g : u.grownBy w none) (hx : w.ownsRow base E 6 x.2 x.1.ac.length (rows accC x.1.ac)) (h2 : w.ownsRow b2 E2 s2 v2 n2 x2) (hne : E ≠ E2) (g2 : w.grownBy w' v2.ownBlock) : ∀ y ∈ ys ++ [x], w'.ownsRow 0 E 6 y.2 y.1.ac.length (rows accC y.1.ac) := by
  intro y hm
  rcases List.mem_append.1 hm with hm | hm
  · exact owns_other (ownsRow_keep (hy y hm) (fun k e => g.block k ((hy y hm).lt k e).2 (by simp))) h2 hne g2
  · have : y = x := by simpa using hm
    subst this
    exact owns_other (owns_zero hx) h2 hne g2

/-- One of one's own accesses is marked as released. -/
theorem row_mark {w0 w : World} {E : TypeId} {l : List Acc} {g m cap n : Nat} {L R : Blks} (h : Row accC 6 E l (.slice (some ⟨g, 0, none⟩) m cap) L) (hm : m = l.length) (o : base.Own w0 w (L ++ R)) (hn : n < l.length) :
    ∃ L', Row accC 6 E (setRel l n) (.slice (some ⟨g, 0, none⟩) m cap) L' ∧ base.Own w0 (w.setCell ⟨g, n * 6 + 5, none⟩ (.bool true)) (L' ++ R) := by
  subst hm
  obtain ⟨cur, h1, h2, h3, h4, h5⟩ := h.open o
  have hb : Blk E (w.setCell ⟨g, n * 6 + 5, none⟩ (.bool true)) g ⟨cur.set (n * 6 + 5) (.bool true)⟩ := by simpa using h1.set (n * 6 + 5) (.bool true)
  obtain ⟨L', r1, r2⟩ := Row.write (l' := setRel l n) h o (gb_setB (gb_refl w _) (.bool true)) hb (by rw [List.length_set]; exact h2) (by rw [setRel_len]; exact h3) (by rw [setRel_len, List.take_set, h5, rows_setRel l n hn])
  rw [setRel_len] at r1
  exact ⟨L', r1, r2⟩
theorem row_free {w0 w : World} {E : TypeId} {l : List Acc} {g m cap : Nat} {L R : Blks} (h : Row accC 6 E l (.slice (some ⟨g, 0, none⟩) m cap) L) (hm : m = l.length) (o : base.Own w0 w (L ++ R)) (j : Nat) : w.frozen? ⟨g, j, none⟩ = false := by
  subst hm
  obtain ⟨cur, h1, _⟩ := h.open o
  exact h1.free j

theorem begins_succ (e : Evs) (n : Nat) : begins e (n + 1) = if (e n).k = 1 then begins e n ++ [n] else begins e n := by
  unfold begins
  rw [List.range_succ, List.filter_append]
  by_cases h : (e n).k = 1
  · rw [if_pos h]
    simp [h]
  · rw [if_neg h]
    simp [h]
end Go.Proofs.Ytkidkhjpijjphaa.hs

/- Package opaque's walk: where it lies, and what of it is changed. -/
namespace Go.Proofs.Ytkidkhjpijjphaa.oq
open Go Go.RowKit Go.Proofs.Ytkidkhjpijjphaa.base Go.Proofs.Ytkidkhjpijjphaa.hs Go.Proofs.Ytkidkhjpijjphaa.lg Go.Maps
set_option linter.unusedVariables false
set_option maxRecDepth 100000
set_option linter.unusedSimpArgs false

def intV (q : Int) : Value := .int .i64 q

/-- Block b is a walk over the tries tv: a state of n values that z tells, p that committed, and what s says; the map's lists are rd's. -/
structure WkP (w : World) (b : Nat) (tv : Value) (n : Nat) (z : Nat → Int) (p : Int) (s : Wk) (N : Nat) (sv vv : Value) (mb : Nat) (rd : Int × Int → Option Value) : Prop where
  blk : Blk 66 w b #[tv, sv, vv, .int .i64 p, .map (some mb)]
  seen : w.ownsRow 0 3 1 sv s.seen.length (s.seen.map intV)
  vals : w.ownsRow 0 2 1 vv n (base.vals z n)
  map : MapG Try.prog 144 two w mb N rd
  nope : ∀ x, rd x = none → s.M x = []
  lst : ∀ x u, rd x = some u → w.ownsRow 0 3 1 u (s.M x).length ((s.M x).map natV)
  apart : ∀ x y u v k, rd x = some u → rd y = some v → u.ownBlock = some k → v.ownBlock = some k → x = y
  sap : ∀ x u k, rd x = some u → u.ownBlock = some k → sv.ownBlock ≠ some k

/-- Its blocks. -/
def WkF (b : Nat) (sv vv : Value) (mb : Nat) (rd : Int × Int → Option Value) : Nat → Prop := fun k => k = b ∨ sv.ownBlock = some k ∨ vv.ownBlock = some k ∨ k = mb ∨ ∃ x u, rd x = some u ∧ u.ownBlock = some k
def WkM (w : World) (F : Nat → Prop) (b : Nat) (tv : Value) (n : Nat) (z : Nat → Int) (p : Int) (s : Wk) (N : Nat) : Prop := ∃ sv vv mb rd, WkP w b tv n z p s N sv vv mb rd ∧ ∀ k, WkF b sv vv mb rd k → F k

section
variable {w w' : World} {F G : Nat → Prop} {b n N mb : Nat} {tv sv vv : Value} {z : Nat → Int} {p : Int} {s : Wk} {rd : Int × Int → Option Value}
theorem WkP.keep (h : WkP w b tv n z p s N sv vv mb rd) (hk : ∀ k, WkF b sv vv mb rd k → w'.heap[k]? = w.heap[k]?) : WkP w' b tv n z p s N sv vv mb rd :=
  ⟨h.blk.keep (hk _ (.inl rfl)), ownsRow_keep h.seen (fun k e => hk k (.inr (.inl e))), ownsRow_keep h.vals (fun k e => hk k (.inr (.inr (.inl e)))), h.map.keep (hk _ (.inr (.inr (.inr (.inl rfl))))), h.nope, fun x u e => ownsRow_keep (h.lst x u e) (fun k e2 => hk k (.inr (.inr (.inr (.inr ⟨x, u, e, e2⟩))))), h.apart, h.sap⟩
theorem WkP.lts (h : WkP w b tv n z p s N sv vv mb rd) : ∀ k, WkF b sv vv mb rd k → k < w.heap.size := by
  rintro k (rfl | e | e | rfl | ⟨x, u, e, e2⟩)
  · exact h.blk.lt
  · exact (h.seen.lt k e).2
  · exact (h.vals.lt k e).2
  · exact h.map.lt
  · exact ((h.lst x u e).lt k e2).2
theorem WkP.grown (h : WkP w b tv n z p s N sv vv mb rd) (g : w.grownBy w' none) : WkP w' b tv n z p s N sv vv mb rd := h.keep fun k hk => g.block k (h.lts k hk) (by simp)
theorem WkM.grown (h : WkM w F b tv n z p s N) (g : w.grownBy w' none) : WkM w' F b tv n z p s N := by
  obtain ⟨sv, vv, mb, rd, h, hF⟩ := h
  exact ⟨sv, vv, mb, rd, h.grown g, hF⟩
theorem WkP.more (h : WkP w b tv n z p s N sv vv mb rd) {N' : Nat} (hN : N ≤ N') : WkP w b tv n z p s N' sv vv mb rd := ⟨h.blk, h.seen, h.vals, h.map.more hN, h.nope, h.lst, h.apart, h.sap⟩
theorem WkM.more (h : WkM w F b tv n z p s N) {N' : Nat} (hN : N ≤ N') : WkM w F b tv n z p s N' := by
  obtain ⟨sv, vv, mb, rd, h, hF⟩ := h
  exact ⟨sv, vv, mb, rd, h.more hN, hF⟩
theorem not_cells_of {e1 e2 : TypeId} {w : World} {k : Nat} {cs ds : Array Value} (h1 : w.heap[k]? = some (.cells cs e1 (0, 0))) (h2 : w.heap[k]? = some (.cells ds e2 (0, 0))) : e1 = e2 := by
  rw [h1] at h2
  injection h2 with h2
  injection h2 with _ h3
/-- A row of a type has no block of another type's rows, of the struct's, of the map's. -/
theorem WkP.seen_ne (h : WkP w b tv n z p s N sv vv mb rd) : ∀ k, sv.ownBlock = some k → k ≠ b ∧ vv.ownBlock ≠ some k ∧ k ≠ mb ∧ (∀ x u, rd x = some u → u.ownBlock ≠ some k) ∧ k < w.heap.size := fun k e => by
  obtain ⟨cs, hc⟩ := ownsRow_type h.seen e
  refine ⟨fun e2 => ?_, fun e2 => ?_, fun e2 => h.map.not_cells (e2 ▸ hc), fun x u hx e2 => h.sap x u k hx e2 e, (h.seen.lt k e).2⟩
  · exact absurd (not_cells_of (e2 ▸ hc) h.blk) (by decide)
  · obtain ⟨ds, hd⟩ := ownsRow_type h.vals e2
    exact absurd (not_cells_of hc hd) (by decide)
theorem WkP.vals_ne (h : WkP w b tv n z p s N sv vv mb rd) : ∀ k, vv.ownBlock = some k → k ≠ b ∧ sv.ownBlock ≠ some k ∧ k ≠ mb ∧ (∀ x u, rd x = some u → u.ownBlock ≠ some k) ∧ k < w.heap.size := fun k e => by
  obtain ⟨cs, hc⟩ := ownsRow_type h.vals e
  refine ⟨fun e2 => ?_, fun e2 => ?_, fun e2 => h.map.not_cells (e2 ▸ hc), fun x u hx e2 => ?_, (h.vals.lt k e).2⟩
  · exact absurd (not_cells_of (e2 ▸ hc) h.blk) (by decide)
  · obtain ⟨ds, hd⟩ := ownsRow_type h.seen e2
    exact absurd (not_cells_of hc hd) (by decide)
  · obtain ⟨ds, hd⟩ := ownsRow_type (h.lst x u hx) e2
    exact absurd (not_cells_of hc hd) (by decide)
theorem WkP.list_ne (h : WkP w b tv n z p s N sv vv mb rd) {x : Int × Int} {u : Value} (hx : rd x = some u) : ∀ k, u.ownBlock = some k → k ≠ b ∧ sv.ownBlock ≠ some k ∧ vv.ownBlock ≠ some k ∧ k ≠ mb ∧ k < w.heap.size := fun k e => by
  obtain ⟨cs, hc⟩ := ownsRow_type (h.lst x u hx) e
  refine ⟨fun e2 => ?_, h.sap x u k hx e, fun e2 => (h.vals_ne k e2).2.2.2.1 x u hx e, fun e2 => h.map.not_cells (e2 ▸ hc), ((h.lst x u hx).lt k e).2⟩
  exact absurd (not_cells_of (e2 ▸ hc) h.blk) (by decide)
theorem WkP.map_ne (h : WkP w b tv n z p s N sv vv mb rd) : mb ≠ b ∧ sv.ownBlock ≠ some mb ∧ vv.ownBlock ≠ some mb ∧ ∀ x u, rd x = some u → u.ownBlock ≠ some mb :=
  ⟨h.map.ne_blk h.blk, fun e => (h.seen_ne _ e).2.2.1 rfl, fun e => (h.vals_ne _ e).2.2.1 rfl, fun x u hx e => (h.list_ne hx _ e).2.2.2.1 rfl⟩

/-- Where a try is seen is put down. -/
theorem WkP.sees (h : WkP w b tv n z p s N sv vv mb rd) {g no : Nat} (hg : sv.ownBlock = some g) (hno : no < s.seen.length) (q : Int) : WkP (w.setCell ⟨g, no, none⟩ (.int .i64 q)) b tv n z p ⟨s.seen.set no q, s.M⟩ N sv vv mb rd := by
  obtain ⟨n1, n2, n3, n4, n5⟩ := h.seen_ne g hg
  have o : ∀ k, k ≠ g → (w.setCell ⟨g, no, none⟩ (.int .i64 q)).heap[k]? = w.heap[k]? := fun k hk => Below.heap_setCell _ _ _ _ hk
  refine ⟨h.blk.keep (o _ (Ne.symm n1)), ?_, ownsRow_keep h.vals (fun k e => o k (fun e2 => n2 (e2 ▸ e))), h.map.keep (o _ (Ne.symm n3)), h.nope, fun x u e => ownsRow_keep (h.lst x u e) (fun k e2 => o k (fun e3 => n4 x u e (e3 ▸ e2))), h.apart, h.sap⟩
  have := lg.ownsRow_set h.seen hg hno (.int .i64 q)
  rw [List.length_set, List.map_set]
  exact this
/-- An object's value is put down. -/
theorem WkP.puts (h : WkP w b tv n z p s N sv vv mb rd) {g o : Nat} (hg : vv.ownBlock = some g) (ho : o < n) (v : Int) : WkP (w.setCell ⟨g, o, none⟩ (.int .i64 v)) b tv n (fun i => if i = o then v else z i) p s N sv vv mb rd := by
  obtain ⟨n1, n2, n3, n4, n5⟩ := h.vals_ne g hg
  have o' : ∀ k, k ≠ g → (w.setCell ⟨g, o, none⟩ (.int .i64 v)).heap[k]? = w.heap[k]? := fun k hk => Below.heap_setCell _ _ _ _ hk
  refine ⟨h.blk.keep (o' _ (Ne.symm n1)), ownsRow_keep h.seen (fun k e => o' k (fun e2 => n2 (e2 ▸ e))), ?_, h.map.keep (o' _ (Ne.symm n3)), h.nope, fun x u e => ownsRow_keep (h.lst x u e) (fun k e2 => o' k (fun e3 => n4 x u e (e3 ▸ e2))), h.apart, h.sap⟩
  have := lg.ownsRow_set h.vals hg ho (.int .i64 v)
  rwa [vals_set] at this
/-- One more committed. -/
theorem WkP.counts (h : WkP w b tv n z p s N sv vv mb rd) (q : Int) : WkP (w.setCell ⟨b, 3, none⟩ (.int .i64 q)) b tv n z q s N sv vv mb rd := by
  have o : ∀ k, k ≠ b → (w.setCell ⟨b, 3, none⟩ (.int .i64 q)).heap[k]? = w.heap[k]? := fun k hk => Below.heap_setCell _ _ _ _ hk
  exact ⟨h.blk.set 3 _, ownsRow_keep h.seen (fun k e => o k (h.seen_ne k e).1), ownsRow_keep h.vals (fun k e => o k (h.vals_ne k e).1), h.map.keep (o _ h.map_ne.1), h.nope, fun x u e => ownsRow_keep (h.lst x u e) (fun k e2 => o k (h.list_ne e k e2).1), h.apart, h.sap⟩
/-- A key is struck: its list is nobody's. -/
theorem WkP.strike (h : WkP w b tv n z p s N sv vv mb rd) (x : Int × Int) (hm : MapG Try.prog 144 two w' mb N (upd rd x none)) (g : w.grownBy w' (some mb)) : WkP w' b tv n z p ⟨s.seen, fun y => if y = x then [] else s.M y⟩ N sv vv mb (upd rd x none) := by
  obtain ⟨m1, m2, m3, m4⟩ := h.map_ne
  refine ⟨h.blk.grown g (by simp; exact fun e => m1 e.symm), ownsRow_keep h.seen (fun k e => g.block k (h.seen_ne k e).2.2.2.2 (by simp; exact (h.seen_ne k e).2.2.1)), ownsRow_keep h.vals (fun k e => g.block k (h.vals_ne k e).2.2.2.2 (by simp; exact (h.vals_ne k e).2.2.1)), hm, fun y hy => ?_, fun y u hy => ?_, fun y y' u u' k hy hy' => ?_, fun y u k hy => ?_⟩
  · by_cases e : y = x
    · simp [e]
    · rw [upd_other _ _ e] at hy
      simp only [if_neg e]
      exact h.nope y hy
  · by_cases e : y = x
    · subst e
      rw [upd_same] at hy
      cases hy
    · rw [upd_other _ _ e] at hy
      simp only [if_neg e]
      exact ownsRow_keep (h.lst y u hy) (fun k e2 => g.block k (h.list_ne hy k e2).2.2.2.2 (by simp; exact (h.list_ne hy k e2).2.2.2.1))
  · by_cases e : y = x
    · subst e
      rw [upd_same] at hy
      cases hy
    · by_cases e' : y' = x
      · subst e'
        rw [upd_same] at hy'
        cases hy'
      · rw [upd_other _ _ e] at hy
        rw [upd_other _ _ e'] at hy'
        exact h.apart y y' u u' k hy hy'
  · by_cases e : y = x
    · subst e
      rw [upd_same] at hy
      cases hy
    · rw [upd_other _ _ e] at hy
      exact h.sap y u k hy
/-- One more waits for x. -/
theorem WkP.push (h : WkP w b tv n z p s N sv vv mb rd) (x : Int × Int) (u' : Value) (no : Nat)
    (hw : Only (fun k => k = mb ∨ ((rd x).getD (.slice none 0 0)).ownBlock = some k) w w') (hm : MapG Try.prog 144 two w' mb (N + 1) (upd rd x (some u'))) (hr : w'.ownsRow 0 3 1 u' (s.M x ++ [no]).length ((s.M x ++ [no]).map natV))
    (hv : u'.ownBlock = ((rd x).getD (.slice none 0 0)).ownBlock ∨ ∃ k, u'.ownBlock = some k ∧ w.heap.size ≤ k) :
    WkP w' b tv n z p ⟨s.seen, fun y => if y = x then s.M y ++ [no] else s.M y⟩ (N + 1) sv vv mb (upd rd x (some u')) ∧ Step (WkF b sv vv mb rd) (WkF b sv vv mb (upd rd x (some u'))) w w' := by
  obtain ⟨m1, m2, m3, m4⟩ := h.map_ne
  have hold : ∀ k, ((rd x).getD (.slice none 0 0)).ownBlock = some k → ∃ u, rd x = some u ∧ u.ownBlock = some k := fun k e => by
    cases hu : rd x with
    | none => rw [hu] at e; cases e
    | some u => rw [hu] at e; exact ⟨u, rfl, e⟩
  have hu' : ∀ k, u'.ownBlock = some k → (∃ u, rd x = some u ∧ u.ownBlock = some k) ∨ w.heap.size ≤ k := fun k e => by
    rcases hv with hv | ⟨k', hv, hk'⟩
    · exact .inl (hold k (hv ▸ e))
    · rw [e] at hv
      cases hv
      exact .inr hk'
  have noap : ∀ y v k, y ≠ x → rd y = some v → v.ownBlock = some k → u'.ownBlock ≠ some k := fun y v k hy hx hk e => by
    rcases hu' k e with ⟨u, h1, h2⟩ | h1
    · exact hy (h.apart y x v u k hx h1 hk h2)
    · have := (h.list_ne hx k hk).2.2.2.2
      omega
  refine ⟨⟨h.blk.keep (hw.block _ h.blk.lt ?_), ownsRow_keep h.seen (fun k e => hw.block k (h.seen_ne k e).2.2.2.2 ?_), ownsRow_keep h.vals (fun k e => hw.block k (h.vals_ne k e).2.2.2.2 ?_), hm, fun y hy => ?_, fun y u hy => ?_, fun y y' u v k hy hy' hk hk' => ?_, fun y u k hy hk => ?_⟩, ⟨hw.mono fun k _ hk => ?_, fun k hk => ?_⟩⟩
  · rintro (e | e)
    · exact m1 e.symm
    · obtain ⟨u, h1, h2⟩ := hold _ e
      exact (h.list_ne h1 _ h2).1 rfl
  · rintro (e2 | e2)
    · exact (h.seen_ne k e).2.2.1 e2
    · obtain ⟨u, h1, h2⟩ := hold _ e2
      exact (h.seen_ne k e).2.2.2.1 x u h1 h2
  · rintro (e2 | e2)
    · exact (h.vals_ne k e).2.2.1 e2
    · obtain ⟨u, h1, h2⟩ := hold _ e2
      exact (h.vals_ne k e).2.2.2.1 x u h1 h2
  · by_cases e : y = x
    · subst e
      rw [upd_same] at hy
      cases hy
    · rw [upd_other _ _ e] at hy
      simp only [if_neg e]
      exact h.nope y hy
  · by_cases e : y = x
    · subst e
      rw [upd_same] at hy
      cases hy
      simp only [if_true]
      exact hr
    · rw [upd_other _ _ e] at hy
      simp only [if_neg e]
      refine ownsRow_keep (h.lst y u hy) (fun k e2 => hw.block k (h.list_ne hy k e2).2.2.2.2 ?_)
      rintro (e3 | e3)
      · exact (h.list_ne hy k e2).2.2.2.1 e3
      · obtain ⟨u2, h1, h2⟩ := hold _ e3
        exact e (h.apart y x u u2 k hy h1 e2 h2)
  · by_cases e : y = x
    · subst e
      rw [upd_same] at hy
      cases hy
      by_cases e' : y' = y
      · exact e'.symm
      · rw [upd_other _ _ e'] at hy'
        exact absurd hk (noap y' v k e' hy' hk')
    · rw [upd_other _ _ e] at hy
      by_cases e' : y' = x
      · subst e'
        rw [upd_same] at hy'
        cases hy'
        exact absurd hk' (noap y u k e hy hk)
      · rw [upd_other _ _ e'] at hy'
        exact h.apart y y' u v k hy hy' hk hk'
  · by_cases e : y = x
    · subst e
      rw [upd_same] at hy
      cases hy
      rcases hu' k hk with ⟨u, h1, h2⟩ | h1
      · exact h.sap y u k h1 h2
      · intro e2
        have := (h.seen_ne k e2).2.2.2.2
        omega
    · rw [upd_other _ _ e] at hy
      exact h.sap y u k hy hk
  · rcases hk with rfl | e
    · exact .inr (.inr (.inr (.inl rfl)))
    · obtain ⟨u, h1, h2⟩ := hold _ e
      exact .inr (.inr (.inr (.inr ⟨x, u, h1, h2⟩)))
  · rcases hk with hk | hk | hk | hk | ⟨y, u, hy, hk⟩
    · exact .inl (.inl hk)
    · exact .inl (.inr (.inl hk))
    · exact .inl (.inr (.inr (.inl hk)))
    · exact .inl (.inr (.inr (.inr (.inl hk))))
    · by_cases e : y = x
      · subst e
        rw [upd_same] at hy
        cases hy
        rcases hu' k hk with ⟨u, h1, h2⟩ | h1
        · exact .inl (.inr (.inr (.inr (.inr ⟨y, u, h1, h2⟩))))
        · exact .inr h1
      · rw [upd_other _ _ e] at hy
        exact .inl (.inr (.inr (.inr (.inr ⟨y, u, hy, hk⟩))))
end
end Go.Proofs.Ytkidkhjpijjphaa.oq

/- What a walk is told of an argument that is a struct of numbers and bools, by value, and of a slice of such. Plain facts on memory, of no program. -/
namespace Go.Proofs.Ytkidkhjpijjphaa.base
open Go Go.RowKit Go.ChangeShapes Go.WideShapes Go.Deep

/-- Field j: a bool where isB says so, else an int. -/
def mixed (isB : Nat → Bool) (z : Nat → Int) (y : Nat → Bool) (j : Nat) : Value := if isB j then .bool (y j) else .int .i64 (z j)

/-- A slice of structs of n fields, ints and bools. -/
def IsMix (n : Nat) (isB : Nat → Bool) (w : World) (a : Option Addr) (len cap : Nat) (z : Nat → Nat → Int) (y : Nat → Nat → Bool) : Prop :=
  len ≤ cap ∧ cap ≤ maxLen ∧ (len = 0 ∨ ∃ b off, a = some ⟨b, off, none⟩ ∧ b < w.heap.size ∧ ∀ i j, i < len → j < n → w.cell? ⟨b, off + (i * n + j), none⟩ = some (mixed isB (z i) (y i) j) ∧ (Lit.int .i64 (z i j)).wf = true)

theorem IsMix.below {n : Nat} {isB : Nat → Bool} {w w' : World} {a : Option Addr} {len cap : Nat} {z : Nat → Nat → Int} {y : Nat → Nat → Bool} (h : IsMix n isB w a len cap z y) (g : Below w.heap.size w w') : IsMix n isB w' a len cap z y := by
  obtain ⟨q1, q2, q3⟩ := h
  refine ⟨q1, q2, ?_⟩
  rcases q3 with q3 | ⟨b, off, rfl, hb, hc⟩
  · exact .inl q3
  · exact .inr ⟨b, off, rfl, Nat.lt_of_lt_of_le hb g.size, fun i j hi hj => ⟨(g.cell (p := ⟨b, off + (i * n + j), none⟩) hb).trans (hc i j hi hj).1, (hc i j hi hj).2⟩⟩

section
variable {H : Type} {enc : TypeId × Value → H} {P : Program} {w : World} {base : Nat} {held : Bool} {t e : TypeId} {fuel : Nat} {a : Option Addr} {len cap : Nat} {x : DataW H × List MemPlace}

/-- The fields of a struct's cells. -/
theorem mixed_of {fs : Array Field} {ti tb : TypeId} {n : Nat} {isB : Nat → Bool} {cs : List Value} (he : P.underlying t = some (.struct fs)) (hi : P.underlying ti = some (.int .i64)) (hb : P.underlying tb = some .bool) (hc1 : P.cellsOf ti = 1) (hc2 : P.cellsOf tb = 1)
    (hfs : ∀ j, j < n → (fs[j]?.map fun f => (f.offset, f.type)) = some (j, if isB j then tb else ti))
    (h : DataW.trod enc P w base (fun _ => true) held fuel t cs = some x) : ∃ (z : Nat → Int) (y : Nat → Bool), ∀ j, j < n → cs[j]? = some (mixed isB z y j) ∧ (Lit.int .i64 (z j)).wf = true := by
  obtain ⟨xs, n', _, _, hl1, _, hf⟩ := DataW.trod_struct he h
  obtain ⟨g, hg⟩ := choose_lt (α := Int × Bool) (n := n) (p := fun j v => cs[j]? = some (if isB j then .bool v.2 else .int .i64 v.1) ∧ (Lit.int .i64 v.1).wf = true) (fun j hj => by
    obtain ⟨fj, hfj, e2⟩ := Option.map_eq_some_iff.1 (hfs j hj)
    simp only [Prod.mk.injEq] at e2
    have e3 := hf j fj hfj
    have hc : P.cellsOf fj.type = 1 := by rw [e2.2]; split <;> assumption
    rw [hc, e2.1] at e3
    have hxs : j < xs.length := by
      rcases Nat.lt_or_ge j xs.length with h' | h'
      · exact h'
      · have := (Array.getElem?_eq_some_iff.1 hfj).1
        omega
    rw [List.getElem?_eq_getElem hxs] at e3
    have key : ∀ v : Value, (cs.drop j).take 1 = [v] → cs[j]? = some v := fun v hv => by
      have h0 : ((cs.drop j).take 1)[0]? = some v := by rw [hv]; rfl
      simpa using h0
    by_cases hB : isB j = true
    · rw [e2.2, if_pos hB] at e3
      obtain ⟨v, hv, _⟩ := DataW.trod_bool hb e3
      exact ⟨(0, v), by rw [if_pos hB]; exact key _ hv, (by decide : (Lit.int .i64 0).wf = true)⟩
    · rw [e2.2, if_neg hB] at e3
      obtain ⟨v, hv, _, hw⟩ := DataW.trod_int hi e3
      exact ⟨(v, false), by rw [if_neg hB]; exact key _ hv, hw⟩)
  exact ⟨fun j => (g j).1, fun j => (g j).2, fun j hj => hg j hj⟩

/-- A struct by value. -/
theorem isMix_of {fs : Array Field} {ti tb : TypeId} {n : Nat} (isB : Nat → Bool) {cs : Array Value} (he : P.underlying t = some (.struct fs)) (hi : P.underlying ti = some (.int .i64)) (hb : P.underlying tb = some .bool) (hc1 : P.cellsOf ti = 1) (hc2 : P.cellsOf tb = 1) (hsz : cs.size = n)
    (hfs : ∀ j, j < n → (fs[j]?.map fun f => (f.offset, f.type)) = some (j, if isB j then tb else ti))
    (h : DataW.trod enc P w base (fun _ => true) held fuel t (Value.agg cs).cells.toList = some x) : ∃ (z : Nat → Int) (y : Nat → Bool), (∀ j, j < n → (Lit.int .i64 (z j)).wf = true) ∧ cs = ⟨(List.range n).map (mixed isB z y)⟩ := by
  obtain ⟨z, y, hz⟩ := mixed_of (n := n) he hi hb hc1 hc2 hfs h
  refine ⟨z, y, fun j hj => (hz j hj).2, ?_⟩
  apply Array.ext'
  apply List.ext_getElem?
  intro j
  by_cases hj : j < n
  · have := (hz j hj).1
    simp only [Value.cells] at this
    rw [this]
    simp [hj]
  · rw [List.getElem?_eq_none (by simpa [hsz] using hj), List.getElem?_eq_none (by simpa using hj)]

/-- A slice of such. -/
theorem isMixes_of {fs : Array Field} {ti tb : TypeId} {n : Nat} (isB : Nat → Bool) (ht : P.underlying t = some (.slice e)) (he : P.underlying e = some (.struct fs)) (hi : P.underlying ti = some (.int .i64)) (hb : P.underlying tb = some .bool) (hc1 : P.cellsOf ti = 1) (hc2 : P.cellsOf tb = 1) (hc : P.cellsOf e = n) (hn : 0 < n)
    (hfs : ∀ j, j < n → (fs[j]?.map fun f => (f.offset, f.type)) = some (j, if isB j then tb else ti))
    (h : DataW.trod enc P w base (fun _ => true) held fuel t (Value.slice a len cap).cells.toList = some x) : ∃ z y, IsMix n isB w a len cap z y := by
  rcases open_slice ht h with ⟨hcs, _⟩ | ⟨c, l, m, k, f, D, Pl, hcs, _, hl, hm, hk, _, hel⟩
  · simp [Value.cells] at hcs
    obtain ⟨rfl, rfl, rfl⟩ := hcs
    exact ⟨fun _ _ => 0, fun _ _ => false, Nat.le_refl _, Nat.zero_le _, .inl rfl⟩
  · simp [Value.cells] at hcs
    obtain ⟨rfl, rfl, rfl⟩ := hcs
    simp only [if_true] at hk
    subst hk
    rw [hc] at hel
    obtain ⟨g, hg⟩ := choose_lt (α := (Nat → Int) × (Nat → Bool)) (n := len) (p := fun i v => ∀ j, j < n → w.cell? (c.add (i * n + j)) = some (mixed isB v.1 v.2 j) ∧ (Lit.int .i64 (v.1 j)).wf = true) (fun i hi' => by
      obtain ⟨cs', h1, h2⟩ := hel i (by omega)
      obtain ⟨_, hlen, hcell⟩ := World.cells?_some h1
      obtain ⟨z, y, hz⟩ := mixed_of (n := n) he hi hb hc1 hc2 hfs h2
      refine ⟨(z, y), fun j hj => ⟨?_, (hz j hj).2⟩⟩
      rw [← add_add, hcell j hj]
      exact (hz j hj).1)
    refine ⟨fun i => (g i).1, fun i => (g i).2, hl, hm, ?_⟩
    by_cases h0 : len = 0
    · exact .inl h0
    · obtain ⟨b, off, hbo⟩ := plain_of (hg 0 (by omega) 0 (by omega)).1
      have hb' := World.block_lt_of_cell? _ _ (hg 0 (by omega) 0 (by omega)).1
      have hc0 : c = ⟨b, off, none⟩ := by simpa [Addr.add] using hbo
      subst hc0
      refine .inr ⟨b, off, rfl, by simpa [Addr.add] using hb', fun i j hi hj => ⟨by rw [← add_eq]; exact (hg i hi j hj).1, (hg i hi j hj).2⟩⟩
end
end Go.Proofs.Ytkidkhjpijjphaa.base

/- What a walk is told of an argument that is a try, by value. -/
namespace Go.Proofs.Ytkidkhjpijjphaa.hs
open Go Go.RowKit Go.ChangeShapes Go.WideShapes Go.Deep Go.Proofs.Ytkidkhjpijjphaa.base
set_option linter.unusedVariables false
set_option maxRecDepth 100000

/-- Its numbers are ints. -/
structure AccWf (a : Acc) : Prop where
  k : (Lit.int .i64 a.k).wf = true
  ob : (Lit.int .i64 a.ob).wf = true
  va : (Lit.int .i64 a.va).wf = true

section
variable {H : Type} {enc : TypeId × Value → H} {P : Program} {w : World} {base : Nat} {held : Bool} {t : TypeId} {fuel : Nat} {x : DataW H × List MemPlace}
/-- The cells of a struct of ints and bools, of several types. -/
theorem plain_wf {fs : Array Field} {n : Nat} {isB : Nat → Bool} {cs : List Value} (he : P.underlying t = some (.struct fs))
    (hfs : ∀ j, j < n → ∃ ti, (fs[j]?.map fun f => (f.offset, f.type)) = some (j, ti) ∧ P.cellsOf ti = 1 ∧ P.underlying ti = some (if isB j then .bool else .int .i64))
    (h : DataW.trod enc P w base (fun _ => true) held fuel t cs = some x) : ∃ (z : Nat → Int) (y : Nat → Bool), ∀ j, j < n → cs[j]? = some (mixed isB z y j) ∧ (Lit.int .i64 (z j)).wf = true := by
  obtain ⟨xs, n', _, _, hl1, _, hf⟩ := DataW.trod_struct he h
  obtain ⟨g, hg⟩ := choose_lt (α := Int × Bool) (n := n) (p := fun j v => cs[j]? = some (if isB j then .bool v.2 else .int .i64 v.1) ∧ (Lit.int .i64 v.1).wf = true) (fun j hj => by
    obtain ⟨ti, e1, hc, hu⟩ := hfs j hj
    obtain ⟨fj, hfj, e2⟩ := Option.map_eq_some_iff.1 e1
    simp only [Prod.mk.injEq] at e2
    have e3 := hf j fj hfj
    rw [e2.1, e2.2, hc] at e3
    have hxs : j < xs.length := by
      rcases Nat.lt_or_ge j xs.length with h' | h'
      · exact h'
      · have := (Array.getElem?_eq_some_iff.1 hfj).1
        omega
    rw [List.getElem?_eq_getElem hxs] at e3
    have key : ∀ v : Value, (cs.drop j).take 1 = [v] → cs[j]? = some v := fun v hv => by
      have h0 : ((cs.drop j).take 1)[0]? = some v := by rw [hv]; rfl
      simpa using h0
    by_cases hB : isB j = true
    · rw [if_pos hB] at hu
      obtain ⟨v, hv, _⟩ := DataW.trod_bool hu e3
      exact ⟨(0, v), by rw [if_pos hB]; exact key _ hv, (by decide : (Lit.int .i64 0).wf = true)⟩
    · rw [if_neg hB] at hu
      obtain ⟨v, hv, _, hw⟩ := DataW.trod_int hu e3
      exact ⟨(v, false), by rw [if_neg hB]; exact key _ hv, hw⟩)
  exact ⟨fun j => (g j).1, fun j => (g j).2, fun j hj => hg j hj⟩
end

section
variable {H : Type} {enc : TypeId × Value → H} {w : World} {base : Nat} {held : Bool} {fuel : Nat} {x : DataW H × List MemPlace}
theorem acc_of {cs : List Value} (h : DataW.trod enc Try.prog w base (fun _ => true) held fuel 48 cs = some x) : ∃ a : Acc, AccWf a ∧ ∀ (j : Nat) (u : Value), (accC a)[j]? = some u → cs[j]? = some u := by
  obtain ⟨z, y, h1⟩ := plain_wf (n := 6) (isB := fun j => j == 4 || j == 5) Try.underlying48 (by
    intro j hj
    rcases (by omega : j = 0 ∨ j = 1 ∨ j = 2 ∨ j = 3 ∨ j = 4 ∨ j = 5) with rfl | rfl | rfl | rfl | rfl | rfl
    · exact ⟨_, rfl, by kernel_rfl, by kernel_rfl⟩
    · exact ⟨_, rfl, by kernel_rfl, by kernel_rfl⟩
    · exact ⟨_, rfl, by kernel_rfl, by kernel_rfl⟩
    · exact ⟨_, rfl, by kernel_rfl, by kernel_rfl⟩
    · exact ⟨_, rfl, by kernel_rfl, by kernel_rfl⟩
    · exact ⟨_, rfl, by kernel_rfl, by kernel_rfl⟩) h
  refine ⟨⟨z 0, z 1, z 2, z 3, y 4, y 5⟩, ⟨(h1 1 (by omega)).2, (h1 2 (by omega)).2, (h1 3 (by omega)).2⟩, fun j u hu => ?_⟩
  have hj : j < 6 := (List.getElem?_eq_some_iff.1 hu).1
  rcases (by omega : j = 0 ∨ j = 1 ∨ j = 2 ∨ j = 3 ∨ j = 4 ∨ j = 5) with rfl | rfl | rfl | rfl | rfl | rfl
  · exact (h1 0 (by omega)).1.trans hu
  · exact (h1 1 (by omega)).1.trans hu
  · exact (h1 2 (by omega)).1.trans hu
  · exact (h1 3 (by omega)).1.trans hu
  · exact (h1 4 (by omega)).1.trans hu
  · exact (h1 5 (by omega)).1.trans hu

theorem accs_of {cs : List Value} (h : DataW.trod enc Try.prog w base (fun _ => true) held fuel 39 cs = some x) : ∃ (a : Option Addr) (cap : Nat) (l : List Acc), cs = [.slice a l.length cap] ∧ l.length ≤ cap ∧ cap ≤ maxLen ∧ IsL accC w a l ∧ ∀ y ∈ l, AccWf y := by
  rcases open_slice Try.underlying39 h with ⟨hcs, _⟩ | ⟨c, len, cap, k, f, D, Pl, hcs, _, hl, hm, hk, _, hel⟩
  · exact ⟨none, 0, [], hcs, Nat.le_refl _, Nat.zero_le _, .inl rfl, by simp⟩
  · simp only [if_true] at hk
    subst hk
    have k6 : Try.prog.cellsOf 48 = 6 := by kernel_rfl
    rw [k6] at hel
    obtain ⟨g, hg⟩ := choose_lt (α := Acc) (n := len) (p := fun i y => AccWf y ∧ ∀ (j : Nat) (u : Value), (accC y)[j]? = some u → w.cell? (c.add (i * 6 + j)) = some u) (fun i hi' => by
      obtain ⟨cs', h1, h2⟩ := hel i (by omega)
      obtain ⟨_, hlen, hcell⟩ := World.cells?_some h1
      obtain ⟨y, hy0, hy⟩ := acc_of h2
      refine ⟨y, hy0, fun j u hu => ?_⟩
      rw [← add_add, hcell j (by have := (List.getElem?_eq_some_iff.1 hu).1; exact this)]
      exact hy j u hu)
    refine ⟨some c, k, (List.range len).map g, by simpa using hcs, by simpa using hl, hm, ?_, fun y hy => ?_⟩
    · by_cases h0 : len = 0
      · subst h0; exact .inl rfl
      · obtain ⟨b, off, hbo⟩ := plain_of ((hg 0 (by omega)).2 0 _ rfl)
        have hb := World.block_lt_of_cell? _ _ ((hg 0 (by omega)).2 0 _ rfl)
        have hc0 : c = ⟨b, off, none⟩ := by simpa [Addr.add] using hbo
        subst hc0
        refine .inr ⟨b, off, rfl, by simpa [Addr.add] using hb, fun j u hu => ?_⟩
        have hj : j < len * 6 := by have := (List.getElem?_eq_some_iff.1 hu).1; rw [rows_length accC_len] at this; simpa using this
        have hx : ((List.range len).map g)[j / 6]? = some (g (j / 6)) := by simp [show j / 6 < len by omega]
        have e1 : j / 6 * 6 + j % 6 = j := by omega
        have hu2 := rows_get accC_len _ _ (j % 6) _ hx (by omega)
        rw [e1] at hu2
        rw [← add_eq, ← e1]
        exact (hg (j / 6) (by omega)).2 (j % 6) u (hu2.symm.trans hu)
    · obtain ⟨i, hi, rfl⟩ := List.mem_map.1 hy
      exact (hg i (by simpa using hi)).1

/-- A try by value: its cells, and its accesses. -/
theorem try_of {cs : Array Value} (hsz : cs.size = 9) (h0 : DataW.trod enc Try.prog w base (fun _ => true) held fuel 41 (Value.agg cs).cells.toList = some x) : ∃ (t : Tr) (va : Option Addr) (vc : Nat), cs = ⟨trC t (.slice va t.ac.length vc)⟩ ∧ t.ac.length ≤ vc ∧ vc ≤ maxLen ∧ IsL accC w va t.ac ∧ ∀ y ∈ t.ac, AccWf y := by
  have h : DataW.trod enc Try.prog w base (fun _ => true) held fuel 41 cs.toList = some x := h0
  obtain ⟨xs, n', _, _, _, hl1, hf⟩ := DataW.trod_struct Try.underlying41 h
  have hl : xs.length = 9 := hl1
  have k0 : Try.prog.cellsOf 3 = 1 := by kernel_rfl
  have k1 : Try.prog.cellsOf 4 = 1 := by kernel_rfl
  have k2 : Try.prog.cellsOf 39 = 1 := by kernel_rfl
  have key : ∀ (j : Nat) (v : Value), (cs.toList.drop j).take 1 = [v] → cs.toList[j]? = some v := fun j v hv => by
    have h0 : ((cs.toList.drop j).take 1)[0]? = some v := by rw [hv]; rfl
    simpa using h0
  have fi : ∀ j, j < 7 → ∃ v : Int, cs.toList[j]? = some (.int .i64 v) := fun j hj => by
    have e3 : DataW.trod enc Try.prog w base (fun _ => true) held n' 3 ((cs.toList.drop j).take 1) = xs[j]? := by
      rw [← k0]
      rcases (by omega : j = 0 ∨ j = 1 ∨ j = 2 ∨ j = 3 ∨ j = 4 ∨ j = 5 ∨ j = 6) with rfl | rfl | rfl | rfl | rfl | rfl | rfl
      · exact hf 0 _ rfl
      · exact hf 1 _ rfl
      · exact hf 2 _ rfl
      · exact hf 3 _ rfl
      · exact hf 4 _ rfl
      · exact hf 5 _ rfl
      · exact hf 6 _ rfl
    rw [List.getElem?_eq_getElem (by omega)] at e3
    obtain ⟨v, hv, _, _⟩ := DataW.trod_int Try.underlying3 e3
    exact ⟨v, key j _ hv⟩
  obtain ⟨v0, g0⟩ := fi 0 (by omega)
  obtain ⟨v1, g1⟩ := fi 1 (by omega)
  obtain ⟨v2, g2⟩ := fi 2 (by omega)
  obtain ⟨v3, g3⟩ := fi 3 (by omega)
  obtain ⟨v4, g4⟩ := fi 4 (by omega)
  obtain ⟨v5, g5⟩ := fi 5 (by omega)
  obtain ⟨v6, g6⟩ := fi 6 (by omega)
  have f7 : DataW.trod enc Try.prog w base (fun _ => true) held n' 4 ((cs.toList.drop 7).take (Try.prog.cellsOf 4)) = xs[7]? := hf 7 _ rfl
  have f8 : DataW.trod enc Try.prog w base (fun _ => true) held n' 39 ((cs.toList.drop 8).take (Try.prog.cellsOf 39)) = xs[8]? := hf 8 _ rfl
  rw [k1, List.getElem?_eq_getElem (by omega)] at f7
  rw [k2, List.getElem?_eq_getElem (by omega)] at f8
  obtain ⟨v7, g7, _⟩ := DataW.trod_bool Try.underlying4 f7
  obtain ⟨va, vc, l, g8, c1, c2, hL, hW⟩ := accs_of f8
  refine ⟨⟨v0, v1, v2, v3, v4, v5, v6, v7, l⟩, va, vc, ?_, c1, c2, hL, hW⟩
  have g7' := key 7 _ g7
  have g8' := key 8 _ g8
  apply Array.ext'
  apply List.ext_getElem?
  intro j
  by_cases hj : j < 9
  · rcases (by omega : j = 0 ∨ j = 1 ∨ j = 2 ∨ j = 3 ∨ j = 4 ∨ j = 5 ∨ j = 6 ∨ j = 7 ∨ j = 8) with rfl | rfl | rfl | rfl | rfl | rfl | rfl | rfl | rfl
    · exact g0
    · exact g1
    · exact g2
    · exact g3
    · exact g4
    · exact g5
    · exact g6
    · exact g7'
    · exact g8'
  · rw [List.getElem?_eq_none (by simpa [hsz] using hj), List.getElem?_eq_none (by simp [trC]; omega)]
end
end Go.Proofs.Ytkidkhjpijjphaa.hs

/- Package model's Fits: did a try read what it should? -/
namespace Go.Proofs.Ytkidkhjpijjphaa.md
open Go Go.RowKit Go.Proofs.Ytkidkhjpijjphaa.base Go.Proofs.Ytkidkhjpijjphaa.hs Go.Proofs.Ytkidkhjpijjphaa.lg Go.Maps
set_option linter.unusedVariables false
set_option maxRecDepth 100000

theorem zero64 (w : World) : (zeroValue 2).run Try.prog w = .ok (.int .i64 0) w := by kernel_rfl
def lwV (W : Int → Option Int) : Int → Option Value := fun o => (W o).map (Value.int .i64)

set_option maxHeartbeats 1000000 in
theorem tells_any (y : Acc) (a : Option Addr) (n c : Nat) (z : Nat → Int) (mb N : Nat) (W : Int → Option Int) (w : World) (hy : AccWf y) (hz : IsNums .i64 w a n z) (hm : MapG Try.prog 3 (Value.int .i64) w mb N (lwV W)) :
    Calls Try.prog 32 #[.agg ⟨accC y⟩, .slice a n c, .map (some mb)] w fun r w' => r = .returned (.bool (tellsB n z (W y.ob) y)) ∧ Hid (w.grownBy w' none) := by
  have HY := Lib.hid hy
  have HZ := Lib.hid hz
  have HM := Lib.hid hm
  clear hy hz hm
  obtain ⟨pl, k, ob, va, own, rel⟩ := y
  show Calls Try.prog 32 #[.agg #[.int .i64 pl, .int .i64 k, .int .i64 ob, .int .i64 va, .bool own, .bool rel], .slice a n c, .map (some mb)] w fun r w' => r = .returned (.bool (tellsB n z (W ob) ⟨pl, k, ob, va, own, rel⟩)) ∧ _
  cases hW : W ob with
  | some v =>
    have HW := Lib.hid hW
    clear hW
    cases own with
    | true =>
      by_cases hv : va = v
      · have f1 : (va == v) = true := by simp [hv]
        have HB := Lib.hid (show tellsB n z (some v) ⟨pl, k, ob, va, true, rel⟩ = true by simp [tellsB, hv])
        rw [HB.out]
        clear hv
        go_enter Try.func32, Try.ntmps32
        go_wp2_with (first | (at_lookup; refine wpList_look_mapG rfl _ _ 72 rfl 3 2 kInt Try.underlying72 _ (zero64 _) (Value.int .i64) mb N (lwV W) rfl (HM.out.grown (show World.grownBy w _ none from (by repeat (first | exact gb_refl _ _ | refine gb_drewN ?_ _ | refine gb_drew ?_ | refine gb_alloc ?_ _))) (by simp)) _ _ rfl (keyInt HY.out.ob) (.int .i64 v) true (by unfold lwV; rw [HW.out]; rfl) (by unfold lwV; rw [HW.out]; rfl) ?_) | go_in)
        go_ret
        exact ⟨rfl, (by repeat (first | exact gb_refl _ _ | refine gb_drewN ?_ _ | refine gb_drew ?_ | refine gb_alloc ?_ _))⟩
      · have f1 : (va == v) = false := by simp [hv]
        have HB := Lib.hid (show tellsB n z (some v) ⟨pl, k, ob, va, true, rel⟩ = false by simp [tellsB, hv])
        rw [HB.out]
        clear hv
        go_enter Try.func32, Try.ntmps32
        go_wp2_with (first | (at_lookup; refine wpList_look_mapG rfl _ _ 72 rfl 3 2 kInt Try.underlying72 _ (zero64 _) (Value.int .i64) mb N (lwV W) rfl (HM.out.grown (show World.grownBy w _ none from (by repeat (first | exact gb_refl _ _ | refine gb_drewN ?_ _ | refine gb_drew ?_ | refine gb_alloc ?_ _))) (by simp)) _ _ rfl (keyInt HY.out.ob) (.int .i64 v) true (by unfold lwV; rw [HW.out]; rfl) (by unfold lwV; rw [HW.out]; rfl) ?_) | go_in)
        go_ret
        exact ⟨rfl, (by repeat (first | exact gb_refl _ _ | refine gb_drewN ?_ _ | refine gb_drew ?_ | refine gb_alloc ?_ _))⟩
    | false =>
      have HB := Lib.hid (show tellsB n z (some v) ⟨pl, k, ob, va, false, rel⟩ = false by simp [tellsB])
      rw [HB.out]
      go_enter Try.func32, Try.ntmps32
      go_wp2_with (first | (at_lookup; refine wpList_look_mapG rfl _ _ 72 rfl 3 2 kInt Try.underlying72 _ (zero64 _) (Value.int .i64) mb N (lwV W) rfl (HM.out.grown (show World.grownBy w _ none from (by repeat (first | exact gb_refl _ _ | refine gb_drewN ?_ _ | refine gb_drew ?_ | refine gb_alloc ?_ _))) (by simp)) _ _ rfl (keyInt HY.out.ob) (.int .i64 v) true (by unfold lwV; rw [HW.out]; rfl) (by unfold lwV; rw [HW.out]; rfl) ?_) | go_in)
      go_ret
      exact ⟨rfl, (by repeat (first | exact gb_refl _ _ | refine gb_drewN ?_ _ | refine gb_drew ?_ | refine gb_alloc ?_ _))⟩
  | none =>
    have HW := Lib.hid hW
    clear hW
    cases own with
    | true =>
      have HB := Lib.hid (show tellsB n z none ⟨pl, k, ob, va, true, rel⟩ = false by simp [tellsB])
      rw [HB.out]
      go_enter Try.func32, Try.ntmps32
      go_wp2_with (first | (at_lookup; refine wpList_look_mapG rfl _ _ 72 rfl 3 2 kInt Try.underlying72 _ (zero64 _) (Value.int .i64) mb N (lwV W) rfl (HM.out.grown (show World.grownBy w _ none from (by repeat (first | exact gb_refl _ _ | refine gb_drewN ?_ _ | refine gb_drew ?_ | refine gb_alloc ?_ _))) (by simp)) _ _ rfl (keyInt HY.out.ob) (.int .i64 0) false (by unfold lwV; rw [HW.out]; rfl) (by unfold lwV; rw [HW.out]; rfl) ?_) | go_in)
      go_quiet (fail)
      go_wp2
      go_ret
      exact ⟨rfl, (by repeat (first | exact gb_refl _ _ | refine gb_drewN ?_ _ | refine gb_drew ?_ | refine gb_alloc ?_ _))⟩
    | false =>
      by_cases hin : 0 ≤ ob ∧ ob < (n : Int)
      · obtain ⟨i, rfl⟩ : ∃ i : Nat, ob = (i : Int) := ⟨ob.toNat, by omega⟩
        have hi : i < n := by omega
        have hi' : (i : Int) < (n : Int) := by omega
        have HB := Lib.hid (show tellsB n z none ⟨pl, k, i, va, false, rel⟩ = (va == z i) by simp [tellsB, hi])
        rw [HB.out]
        obtain ⟨zb, zo, rfl, hzb, cz⟩ := (HZ.out.at1 hi)
        clear hin
        generalize z i = zi at *
        go_enter Try.func32, Try.ntmps32
        go_wp2_with (first | (at_lookup; refine wpList_look_mapG rfl _ _ 72 rfl 3 2 kInt Try.underlying72 _ (zero64 _) (Value.int .i64) mb N (lwV W) rfl (HM.out.grown (show World.grownBy w _ none from (by repeat (first | exact gb_refl _ _ | refine gb_drewN ?_ _ | refine gb_drew ?_ | refine gb_alloc ?_ _))) (by simp)) _ _ rfl (keyInt HY.out.ob) (.int .i64 0) false (by unfold lwV; rw [HW.out]; rfl) (by unfold lwV; rw [HW.out]; rfl) ?_) | go_in)
        go_quiet ((go_at_call 52; refine Calls.quiet_of_same ((has_yesq _ n _ i _ hi).mono fun _ _ h => ⟨h.1, h.2⟩)))
        go_wp2
        go_ret
        exact ⟨rfl, (by repeat (first | exact gb_refl _ _ | refine gb_drewN ?_ _ | refine gb_drew ?_ | refine gb_alloc ?_ _))⟩
      · have HNO := Lib.hid (show ob < 0 ∨ (n : Int) ≤ ob by omega)
        have HB := Lib.hid (show tellsB n z none ⟨pl, k, ob, va, false, rel⟩ = false by simp [tellsB]; intro h1 h2; omega)
        rw [HB.out]
        clear hin
        go_enter Try.func32, Try.ntmps32
        go_wp2_with (first | (at_lookup; refine wpList_look_mapG rfl _ _ 72 rfl 3 2 kInt Try.underlying72 _ (zero64 _) (Value.int .i64) mb N (lwV W) rfl (HM.out.grown (show World.grownBy w _ none from (by repeat (first | exact gb_refl _ _ | refine gb_drewN ?_ _ | refine gb_drew ?_ | refine gb_alloc ?_ _))) (by simp)) _ _ rfl (keyInt HY.out.ob) (.int .i64 0) false (by unfold lwV; rw [HW.out]; rfl) (by unfold lwV; rw [HW.out]; rfl) ?_) | go_in)
        go_quiet ((go_at_call 52; refine Calls.quiet_of_same ((has_noq _ n _ ob _ HNO.out).mono fun _ _ h => ⟨h.1, h.2⟩)))
        go_wp2
        go_ret
        exact ⟨rfl, (by repeat (first | exact gb_refl _ _ | refine gb_drewN ?_ _ | refine gb_drew ?_ | refine gb_alloc ?_ _))⟩

theorem lwV_put {l : List Acc} {k : Nat} {y : Acc} (h : l[k]? = some y) (h3 : y.k = 3) : lwV (lastW (l.take (k + 1))) = upd (lwV (lastW (l.take k))) y.ob (some (.int .i64 y.va)) := by
  funext o
  unfold lwV
  rw [lastW_take h]
  by_cases e : o = y.ob
  · subst e; rw [upd_same, if_pos ⟨h3, rfl⟩]; rfl
  · rw [upd_other _ _ e, if_neg (fun h => e h.2.symm)]
theorem lwV_same {l : List Acc} {k : Nat} {y : Acc} (h : l[k]? = some y) (h3 : y.k ≠ 3) : lwV (lastW (l.take (k + 1))) = lwV (lastW (l.take k)) := by
  funext o
  unfold lwV
  rw [lastW_take h, if_neg (fun h => h3 h.1)]

set_option maxHeartbeats 2000000 in
theorem fits_any (a : Option Addr) (n c : Nat) (z : Nat → Int) (t : Tr) (av : Option Addr) (vc : Nat) (w : World) (hz : IsNums .i64 w a n z) (hl : IsL accC w av t.ac) (hy : ∀ y ∈ t.ac, AccWf y) (hm : t.ac.length ≤ 1000000) :
    Calls Try.prog 16 #[.slice a n c, .agg ⟨trC t (.slice av t.ac.length vc)⟩] w fun r w' => r = .returned (.bool (fits n z t.ac)) ∧ Hid (w.grownBy w' none) := by
  obtain ⟨xth, xtx, xat, xst, xb, xen, xre, xco, ac⟩ := t
  dsimp only at hl hm hy
  show Calls Try.prog 16 #[.slice a n c, .agg #[.int .i64 xth, .int .i64 xtx, .int .i64 xat, .int .i64 xst, .int .i64 xb, .int .i64 xen, .int .i64 xre, .bool xco, .slice av ac.length vc]] w fun r w' => r = .returned (.bool (fits n z ac)) ∧ _
  have HL := Lib.hid hl
  have HZ := Lib.hid hz
  have HY := Lib.hid hy
  have hmm := @run_makeMap Try.prog
  have GA := Lib.hid (show World.grownBy w ((w.alloc (.cells #[.int .i64 xth, .int .i64 xtx, .int .i64 xat, .int .i64 xst, .int .i64 xb, .int .i64 xen, .int .i64 xre, .bool xco, .slice av ac.length vc] 41)).alloc (.map #[] 0)) none from (by repeat (first | exact gb_refl _ _ | refine gb_drewN ?_ _ | refine gb_drew ?_ | refine gb_alloc ?_ _)))
  have MA : Hid (MapG Try.prog 3 (Value.int .i64) ((w.alloc (.cells #[.int .i64 xth, .int .i64 xtx, .int .i64 xat, .int .i64 xst, .int .i64 xb, .int .i64 xen, .int .i64 xre, .bool xco, .slice av ac.length vc] 41)).alloc (.map #[] 0)) (w.heap.size + 1) 0 (lwV (lastW (ac.take 0)))) := Lib.hid (by have := MapG.made (w.alloc (.cells #[.int .i64 xth, .int .i64 xtx, .int .i64 xat, .int .i64 xst, .int .i64 xb, .int .i64 xen, .int .i64 xre, .bool xco, .slice av ac.length vc] 41)) Try.prog 3 (Value.int .i64); rw [World.size_alloc] at this; exact this)
  clear hl hz hy
  go_enter Try.func16, Try.ntmps16
  go_wp2
  have HMB := Lib.hid (show w.heap.size ≤ w.heap.size + 1 by omega)
  generalize (w.alloc _).alloc _ = w1 at *
  generalize w.heap.size + 1 = mb at *
  go_loopw [12] (fun iv wr => ∃ k : Nat, k ≤ ac.length ∧ iv = .int .i64 k ∧ Hid (fitsN n z ac k = true) ∧ Hid (MapG Try.prog 3 (Value.int .i64) wr mb k (lwV (lastW (ac.take k)))) ∧ Hid (w.grownBy wr none)) (fun iv _ => (ac.length - intOf iv).toNat)
  case atStart => exact ⟨0, by omega, rfl, rfl, MA, GA⟩
  case round =>
    obtain ⟨k, hk, rfl, HF, M, G⟩ := hrel
    clear MA GA
    by_cases hlt : k < ac.length
    · have hlt' : (k : Int) < (ac.length : Int) := by omega
      have hk6 : (k : Int) < 1000000 := by omega
      have hget := List.getElem?_eq_getElem hlt
      obtain ⟨b, off, rfl, hb, c0, c1, c2, c3, c4, c5⟩ := acc6 (HL.out.grown G.out) hget
      have WY := Lib.hid (HY.out ac[k] (List.getElem_mem hlt))
      have HS3 := Lib.hid (lwV_put (l := ac) hget)
      have HSN := Lib.hid (lwV_same (l := ac) hget)
      have HST := Lib.hid (fitsN_step (n := n) (z := z) hget)
      have HBAD := Lib.hid (fun h => fits_bad (n := n) (z := z) hget h)
      clear hget
      generalize ac[k] = y at *
      have mlt := M.out.lt
      by_cases h3 : y.k = 3
      · have HS := Lib.hid (HS3.out h3)
        have HB := Lib.hid (show fitsN n z ac (k + 1) = true by rw [HST.out, HF.out]; unfold readOk; rw [if_neg (by omega)]; rfl)
        clear HS3 HSN HST HBAD
        obtain ⟨pl, ak, ob, va, own, rel⟩ := y
        dsimp only at h3 HS c0 c1 c2 c3 c4 c5
        subst h3
        have G1 := Lib.hid (World.grownBy_alloc wr (.cells #[.int .i64 pl, .int .i64 3, .int .i64 ob, .int .i64 va, .bool own, .bool rel] 48) none)
        have M1 := Lib.hid (M.out.grown G1.out (by simp))
        go_wp2_with (first | (at_mapUpdate; refine wpList_set_mapG rfl _ _ _ 72 rfl 3 2 kInt (Value.int .i64) vint_inj Try.underlying72 mb k (lwV (lastW (ac.take k))) rfl M1.out (by unfold maxLen; omega) ob _ rfl (keyInt WY.out.ob) (.int .i64 va) rfl ?_; intro u2 m2 g2; have M2 := Lib.hid m2; have G2 := Lib.hid g2; clear m2 g2) | go_in)
        go_roundw
        case rel => exact ⟨k + 1, by omega, by go_num, HB.out, M2.out.congr (fun _ _ _ => by rw [HS.out]), gb_over (gb_trans G.out G1.out) G2.out HMB.out⟩
        case measure => simp [intOf]; omega
      · have f3 : (y.k == 3) = false := by simp [h3]
        have HS := Lib.hid (HSN.out h3)
        clear HS3 HSN h3
        by_cases h2 : y.k = 2
        · cases hrel2 : y.rel with
          | true =>
            have HB := Lib.hid (show fitsN n z ac (k + 1) = true by rw [HST.out, HF.out]; unfold readOk; rw [if_neg (by rw [hrel2]; simp)]; rfl)
            clear HST HBAD
            obtain ⟨pl, ak, ob, va, own, rel⟩ := y
            dsimp only at h2 hrel2 f3 c0 c1 c2 c3 c4 c5
            subst h2 hrel2
            have G1 := Lib.hid (World.grownBy_alloc wr (.cells #[.int .i64 pl, .int .i64 2, .int .i64 ob, .int .i64 va, .bool own, .bool true] 48) none)
            go_wp2
            go_roundw
            case rel => exact ⟨k + 1, by omega, by go_num, HB.out, ((M.out.grown G1.out (by simp)).more (Nat.le_succ _)).congr (fun _ _ _ => by rw [HS.out]), gb_trans G.out G1.out⟩
            case measure => simp [intOf]; omega
          | false =>
            have HOK := Lib.hid (show readOk n z (lastW (ac.take k) y.ob) y = tellsB n z (lastW (ac.take k) y.ob) y by unfold readOk; rw [if_pos ⟨h2, hrel2⟩])
            obtain ⟨pl, ak, ob, va, own, rel⟩ := y
            dsimp only at h2 hrel2 f3 c0 c1 c2 c3 c4 c5
            subst h2 hrel2
            have G1 := Lib.hid (World.grownBy_alloc wr (.cells #[.int .i64 pl, .int .i64 2, .int .i64 ob, .int .i64 va, .bool own, .bool false] 48) none)
            have M1 := Lib.hid (M.out.grown G1.out (by simp))
            cases hT : tellsB n z (lastW (ac.take k) ob) ⟨pl, 2, ob, va, own, false⟩ with
            | true =>
              have HB := Lib.hid (show fitsN n z ac (k + 1) = true by rw [HST.out, HF.out, HOK.out]; exact hT)
              have HTT := Lib.hid hT
              clear HST HBAD HOK hT
              go_wp2_with (first | (go_at_call 32; refine (tells_any ⟨pl, 2, ob, va, own, false⟩ _ n _ z mb k _ _ WY.out (HZ.out.grown (gb_trans G.out G1.out)) M1.out).mono ?_; dsimp only; rw [HTT.out]; rintro r u2 ⟨rfl, g2⟩) | go_in)
              go_roundw
              case rel => exact ⟨k + 1, by omega, by go_num, HB.out, ((M1.out.grown g2.out (by simp)).more (Nat.le_succ _)).congr (fun _ _ _ => by rw [HS.out]), gb_trans (gb_trans G.out G1.out) g2.out⟩
              case measure => simp [intOf]; omega
            | false =>
              have HB := Lib.hid (show fits n z ac = false from HBAD.out (by rw [HOK.out]; exact hT))
              have HTT := Lib.hid hT
              clear HST HBAD HOK hT
              go_wp2_with (first | (go_at_call 32; refine (tells_any ⟨pl, 2, ob, va, own, false⟩ _ n _ z mb k _ _ WY.out (HZ.out.grown (gb_trans G.out G1.out)) M1.out).mono ?_; dsimp only; rw [HTT.out]; rintro r u2 ⟨rfl, g2⟩) | go_in)
              go_ret
              exact ⟨by rw [HB.out]; rfl, gb_trans (gb_trans G.out G1.out) g2.out⟩
        · have f2 : (y.k == 2) = false := by simp [h2]
          have HB := Lib.hid (show fitsN n z ac (k + 1) = true by rw [HST.out, HF.out]; unfold readOk; rw [if_neg (fun h => h2 h.1)]; rfl)
          clear HST HBAD h2
          obtain ⟨pl, ak, ob, va, own, rel⟩ := y
          dsimp only at f2 f3 c0 c1 c2 c3 c4 c5
          have G1 := Lib.hid (World.grownBy_alloc wr (.cells #[.int .i64 pl, .int .i64 ak, .int .i64 ob, .int .i64 va, .bool own, .bool rel] 48) none)
          go_wp2
          go_roundw
          case rel => exact ⟨k + 1, by omega, by go_num, HB.out, ((M.out.grown G1.out (by simp)).more (Nat.le_succ _)).congr (fun _ _ _ => by rw [HS.out]), gb_trans G.out G1.out⟩
          case measure => simp [intOf]; omega
    · obtain rfl : k = ac.length := by omega
      go_wp2
      go_ret
      exact ⟨by rw [show fits n z ac = true from HF.out]; rfl, G⟩
end Go.Proofs.Ytkidkhjpijjphaa.md

/- Package opaque's walk: what it reads of a state. -/
namespace Go.Proofs.Ytkidkhjpijjphaa.oq
open Go Go.RowKit Go.Proofs.Ytkidkhjpijjphaa.base Go.Proofs.Ytkidkhjpijjphaa.hs Go.Proofs.Ytkidkhjpijjphaa.lg Go.Proofs.Ytkidkhjpijjphaa.md Go.Maps
set_option linter.unusedVariables false
set_option maxRecDepth 100000
set_option linter.unusedSimpArgs false

theorem has_yes (b : Nat) (a : Option Addr) (n c i : Nat) (w : World) (h : i < n) (c2 : w.cell? ⟨b, 2, none⟩ = some (.slice a n c)) : Calls Try.prog 88 #[.pointer (some ⟨b, 0, none⟩), .int .i64 (i : Int)] w fun r w' => r = .returned (.bool true) ∧ w' = w := by
  have h1 : (0 : Int) ≤ (i : Int) := by omega
  have h2 : (i : Int) < (n : Int) := by omega
  have bl := World.block_lt_of_cell? _ _ c2
  go_enter Try.func88, Try.ntmps88
  go_wp2
  go_ret
  exact ⟨rfl, rfl⟩

theorem has_no (b : Nat) (a : Option Addr) (n c : Nat) (o : Int) (w : World) (h : o < 0 ∨ (n : Int) ≤ o) (c2 : w.cell? ⟨b, 2, none⟩ = some (.slice a n c)) : Calls Try.prog 88 #[.pointer (some ⟨b, 0, none⟩), .int .i64 o] w fun r w' => r = .returned (.bool false) ∧ w' = w := by
  have bl := World.block_lt_of_cell? _ _ c2
  by_cases h1 : o < 0
  · have h0 : ¬ (0 : Int) ≤ o := by omega
    clear h
    go_enter Try.func88, Try.ntmps88
    go_wp2
    go_ret
    exact ⟨rfl, rfl⟩
  · have h0 : (0 : Int) ≤ o := by omega
    have h2 : ¬ o < (n : Int) := by omega
    clear h
    go_enter Try.func88, Try.ntmps88
    go_wp2
    go_ret
    exact ⟨rfl, rfl⟩

set_option maxHeartbeats 2000000 in
theorem holds_any (b : Nat) (a : Option Addr) (n c : Nat) (z : Nat → Int) (y : Acc) (w : World) (c2 : w.cell? ⟨b, 2, none⟩ = some (.slice a n c)) (hz : IsNums .i64 w a n z) :
    Calls Try.prog 94 #[.pointer (some ⟨b, 0, none⟩), .agg ⟨accC y⟩] w fun r w' => r = .returned (.bool (holdsB n z y)) ∧ Hid (w.grownBy w' none) := by
  have HZ := Lib.hid hz
  clear hz
  obtain ⟨pl, k, ob, va, own, rel⟩ := y
  have GA := Lib.hid (World.grownBy_alloc w (.cells #[.int .i64 pl, .int .i64 k, .int .i64 ob, .int .i64 va, .bool own, .bool rel] 48) none)
  have EB := Lib.hid (Blk.made w 48 #[.int .i64 pl, .int .i64 k, .int .i64 ob, .int .i64 va, .bool own, .bool rel])
  show Calls Try.prog 94 #[.pointer (some ⟨b, 0, none⟩), .agg #[.int .i64 pl, .int .i64 k, .int .i64 ob, .int .i64 va, .bool own, .bool rel]] w fun r w' => r = .returned (.bool (holdsB n z ⟨pl, k, ob, va, own, rel⟩)) ∧ _
  by_cases hin : 0 ≤ ob ∧ ob < (n : Int)
  · obtain ⟨i, rfl⟩ : ∃ i : Nat, ob = (i : Int) := ⟨ob.toNat, by omega⟩
    have hi : i < n := by omega
    have hi' : (i : Int) < (n : Int) := by omega
    have HB := Lib.hid (show holdsB n z ⟨pl, k, i, va, own, rel⟩ = (z i == va) by simp [holdsB, hi, Bool.beq_comm])
    rw [HB.out]
    obtain ⟨zb, zo, rfl, hzb, cz⟩ := ((HZ.out.grown GA.out).at1 hi)
    clear hin
    generalize z i = zi at *
    have h0 : (0 : Int) ≤ (i : Int) := by omega
    go_enter Try.func94, Try.ntmps94; go_upto_region 1 with fail; generalize w.alloc _ = v at *; generalize hp : w.heap.size = p at *; clear hp; have d2 : v.cell? ⟨b, 2, none⟩ = some (.slice (some ⟨zb, zo, none⟩) n c) := GA.out.cell c2 (by simp); have e2 : v.cell? ⟨p, 2, none⟩ = some (.int .i64 i) := EB.out.cell 2; have e3 : v.cell? ⟨p, 3, none⟩ = some (.int .i64 va) := EB.out.cell 3; have bv := World.block_lt_of_cell? _ _ d2; have pv := EB.out.lt
    go_wp2_with fail
    have HY : ∀ m, Calls Try.prog 88 #[.pointer (some ⟨b, 0, none⟩), .int .i64 (i : Int)] (v.drewN m) fun r w' => r = .returned (.bool true) ∧ w' = v.drewN m := fun m => has_yes b _ n c i _ hi d2
    go_quiet ((go_at_call 88; refine Calls.quiet_of_same (HY _)))
    go_wp2
    go_ret
    exact ⟨rfl, (by first | exact GA.out | exact gb_drew GA.out | exact gb_drewN GA.out _)⟩
  · have HNO := Lib.hid (show ob < 0 ∨ (n : Int) ≤ ob by omega)
    have HB := Lib.hid (show holdsB n z ⟨pl, k, ob, va, own, rel⟩ = false by simp [holdsB]; intro h1 h2; omega)
    rw [HB.out]
    clear hin
    go_enter Try.func94, Try.ntmps94; go_upto_region 1 with fail; generalize w.alloc _ = v at *; generalize hp : w.heap.size = p at *; clear hp; have d2 : v.cell? ⟨b, 2, none⟩ = some (.slice a n c) := GA.out.cell c2 (by simp); have e2 : v.cell? ⟨p, 2, none⟩ = some (.int .i64 ob) := EB.out.cell 2; have e3 : v.cell? ⟨p, 3, none⟩ = some (.int .i64 va) := EB.out.cell 3; have bv := World.block_lt_of_cell? _ _ d2; have pv := EB.out.lt
    go_wp2_with fail
    have HY : ∀ m, Calls Try.prog 88 #[.pointer (some ⟨b, 0, none⟩), .int .i64 ob] (v.drewN m) fun r w' => r = .returned (.bool false) ∧ w' = v.drewN m := fun m => has_no b a n c ob _ HNO.out d2
    go_quiet ((go_at_call 88; refine Calls.quiet_of_same (HY _)))
    go_wp2
    go_ret
    exact ⟨rfl, (by first | exact GA.out | exact gb_drew GA.out | exact gb_drewN GA.out _)⟩

def missV : Option (Int × Int) → Value
  | some x => .tuple #[.agg #[.int .i64 x.1, .int .i64 x.2], .bool true]
  | none => .tuple #[.agg #[.int .i64 0, .int .i64 0], .bool false]
theorem misses_drop {n : Nat} {z : Nat → Int} {l : List Acc} {k : Nat} {y : Acc} (h : l[k]? = some y) : misses n z (l.drop k) = if y.asks ∧ holdsB n z y = false then some (y.ob, y.va) else misses n z (l.drop (k + 1)) := by
  obtain ⟨hk, hk2⟩ := List.getElem?_eq_some_iff.1 h
  rw [List.drop_eq_getElem_cons hk, hk2, misses]

theorem want_ret (tmps : Array Value) (W : World) (rb : Nat) (x y : Int) (bb : Bool) (h4 : tmps.getD 4 undef = .pointer (some ⟨rb, 0, none⟩)) (h5 : tmps.getD 5 undef = .bool bb) (hb : Blk 144 W rb #[.int .i64 x, .int .i64 y]) :
    (results Try.f87 tmps).run Try.prog W = .ok (.tuple #[.agg #[.int .i64 x, .int .i64 y], .bool bb]) W := by
  rw [results_cell_tmp rfl, h4, h5]
  have h := run_loadVar_row (P := Try.prog) W rb 144 144 #[.int .i64 x, .int .i64 y] (0, 0) _ hb Try.underlying144 rfl (by kernel_rfl)
  show (((loadVar 144 ⟨rb, 0, none⟩).run Try.prog W).andThen _) = _
  rw [h]
  rfl

set_option maxHeartbeats 2000000 in
theorem misses_any (b : Nat) (a : Option Addr) (n c : Nat) (z : Nat → Int) (t : Tr) (av : Option Addr) (vc : Nat) (w : World) (c2 : w.cell? ⟨b, 2, none⟩ = some (.slice a n c)) (hz : IsNums .i64 w a n z) (hl : IsL accC w av t.ac) (hm : t.ac.length ≤ 1000000) :
    Calls Try.prog 87 #[.pointer (some ⟨b, 0, none⟩), .agg ⟨trC t (.slice av t.ac.length vc)⟩] w fun r w' => r = .returned (missV (misses n z t.ac)) ∧ Hid (w.grownBy w' none) := by
  obtain ⟨xth, xtx, xat, xst, xb, xen, xre, xco, ac⟩ := t
  dsimp only at hl hm
  show Calls Try.prog 87 #[.pointer (some ⟨b, 0, none⟩), .agg #[.int .i64 xth, .int .i64 xtx, .int .i64 xat, .int .i64 xst, .int .i64 xb, .int .i64 xen, .int .i64 xre, .bool xco, .slice av ac.length vc]] w fun r w' => r = .returned (missV (misses n z ac)) ∧ _
  have HL := Lib.hid hl
  have HZ := Lib.hid hz
  have HC := Lib.hid c2
  clear hl hz c2
  have G0 := Lib.hid (show World.grownBy w ((w.alloc (.cells #[.int .i64 xth, .int .i64 xtx, .int .i64 xat, .int .i64 xst, .int .i64 xb, .int .i64 xen, .int .i64 xre, .bool xco, .slice av ac.length vc] 41)).alloc (.cells #[.int .i64 0, .int .i64 0] 144)) none from (by repeat (first | exact gb_refl _ _ | refine gb_drewN ?_ _ | refine gb_drew ?_ | refine gb_alloc ?_ _)))
  have R0 : Hid (Blk 144 ((w.alloc (.cells #[.int .i64 xth, .int .i64 xtx, .int .i64 xat, .int .i64 xst, .int .i64 xb, .int .i64 xen, .int .i64 xre, .bool xco, .slice av ac.length vc] 41)).alloc (.cells #[.int .i64 0, .int .i64 0] 144)) (w.heap.size + 1) #[.int .i64 0, .int .i64 0]) := Lib.hid (by have := Blk.made (w.alloc (.cells #[.int .i64 xth, .int .i64 xtx, .int .i64 xat, .int .i64 xst, .int .i64 xb, .int .i64 xen, .int .i64 xre, .bool xco, .slice av ac.length vc] 41)) 144 #[.int .i64 0, .int .i64 0]; rwa [World.size_alloc] at this)
  go_enter Try.func87, Try.ntmps87
  go_wp2_with fail

  generalize (w.alloc _).alloc _ = w1 at *
  generalize hrb : w.heap.size + 1 = rb at *
  have HRB := Lib.hid (show w.heap.size ≤ rb by omega)
  clear hrb
  go_loopw [11] (fun iv wr => ∃ k : Nat, k ≤ ac.length ∧ iv = .int .i64 k ∧ Hid (misses n z (ac.drop k) = misses n z ac) ∧ Hid (w1.grownBy wr none)) (fun iv _ => (ac.length - intOf iv).toNat)
  case atStart => exact ⟨0, by omega, rfl, rfl, gb_refl _ _⟩
  case round =>
    obtain ⟨k, hk, rfl, HM, G⟩ := hrel
    have GG := Lib.hid (gb_trans G0.out G.out)
    have R := Lib.hid (R0.out.grown G.out (by simp))
    have r0 := R.out.cell 0
    have r1 := R.out.cell 1
    have q0 := R.out.free 0
    have q1 := R.out.free 1
    have rl := R.out.lt
    clear R0
    by_cases hlt : k < ac.length
    · have hlt' : (k : Int) < (ac.length : Int) := by omega
      have hk6 : (k : Int) < 1000000 := by omega
      have hget := List.getElem?_eq_getElem hlt
      obtain ⟨lb, off, rfl, hb, c0, c1, c3, c4, c5, c6⟩ := acc6 (HL.out.grown GG.out) hget
      have HD := Lib.hid (misses_drop (n := n) (z := z) hget)
      clear hget
      generalize ac[k] = y at *
      have CC := Lib.hid (GG.out.cell HC.out (by simp))
      obtain ⟨pl, ak, ob, va, own, rel⟩ := y
      dsimp only at c0 c1 c3 c4 c5 c6
      have G1 := fun (kk : Int) (o r : Bool) => World.grownBy_alloc wr (.cells #[.int .i64 pl, .int .i64 kk, .int .i64 ob, .int .i64 va, .bool o, .bool r] 48) none
      by_cases h2 : ak = 2
      · subst h2
        cases own with
        | true =>
          have HN := Lib.hid (show misses n z (ac.drop (k + 1)) = misses n z ac by rw [← HM.out, HD.out, if_neg]; rintro ⟨⟨_, h, _⟩, _⟩; cases h)
          clear HD HM
          go_wp2
          go_roundw; (case rel => exact ⟨k + 1, by omega, by go_num, HN.out, gb_trans G.out (G1 2 true rel)⟩); (case measure => simp [intOf]; omega)
        | false =>
          cases rel with
          | true =>
            have HN := Lib.hid (show misses n z (ac.drop (k + 1)) = misses n z ac by rw [← HM.out, HD.out, if_neg]; rintro ⟨⟨_, _, h⟩, _⟩; cases h)
            clear HD HM
            go_wp2
            go_roundw; (case rel => exact ⟨k + 1, by omega, by go_num, HN.out, gb_trans G.out (G1 2 false true)⟩); (case measure => simp [intOf]; omega)
          | false =>
            have CC1 := (G1 2 false false).cell CC.out (by simp)
            cases hh : holdsB n z ⟨pl, 2, ob, va, false, false⟩ with
            | true =>
              have HH := Lib.hid hh
              have HN := Lib.hid (show misses n z (ac.drop (k + 1)) = misses n z ac by rw [← HM.out, HD.out, if_neg]; rintro ⟨_, h⟩; rw [hh] at h; cases h)
              clear HD HM hh
              go_wp2_with (first | (go_at_call 94; refine (holds_any b a n c z ⟨pl, 2, ob, va, false, false⟩ _ CC1 (HZ.out.grown (gb_trans GG.out (G1 2 false false)))).mono ?_; rw [HH.out]; rintro r u1 ⟨rfl, g1⟩; clear CC1) | go_in)
              go_roundw; (case rel => exact ⟨k + 1, by omega, by go_num, HN.out, gb_trans G.out (gb_trans (G1 2 false false) g1.out)⟩); (case measure => simp [intOf]; omega)
            | false =>
              have HH := Lib.hid hh
              have HN := Lib.hid (show misses n z ac = some (ob, va) by rw [← HM.out, HD.out, if_pos ⟨⟨rfl, rfl, rfl⟩, hh⟩])
              clear HD HM hh
              have R2 := Lib.hid (R.out.grown (G1 2 false false) (by simp))
              have BA := Lib.hid (Blk.made wr 48 #[.int .i64 pl, .int .i64 2, .int .i64 ob, .int .i64 va, .bool false, .bool false])
              go_wp2_with (first | (go_at_call 94; refine (holds_any b a n c z ⟨pl, 2, ob, va, false, false⟩ _ CC1 (HZ.out.grown (gb_trans GG.out (G1 2 false false)))).mono ?_; rw [HH.out]; rintro r u1 ⟨rfl, g1⟩; clear CC1; have R3 := Lib.hid (R2.out.grown g1.out (by simp)); have s0 := R3.out.cell 0; have s1 := R3.out.cell 1; have p0 := R3.out.free 0; have p1 := R3.out.free 1; have BA2 := BA.out.grown g1.out (by simp); have a2 := BA2.cell 2; have a3 := BA2.cell 3; have al := BA2.lt; have rl3 := R3.out.lt; clear BA2 r0 r1 q0 q1) | go_in)
              refine bodyPost_ret (want_ret _ _ rb ob va true rfl rfl ((R3.out.set 0 _).set 1 _)) rfl ?_
              rw [HN.out]
              exact ⟨rfl, gb_over (gb_trans GG.out (gb_trans (G1 2 false false) g1.out)) (gb_setB (gb_setB (gb_refl u1 (some rb)) _) _) HRB.out⟩
      · have f2 : (ak == 2) = false := by simp [h2]
        have HN := Lib.hid (show misses n z (ac.drop (k + 1)) = misses n z ac by rw [← HM.out, HD.out, if_neg]; rintro ⟨⟨h, _⟩, _⟩; exact h2 h)
        clear HD HM h2
        go_wp2
        go_roundw; (case rel => exact ⟨k + 1, by omega, by go_num, HN.out, gb_trans G.out (G1 ak own rel)⟩); (case measure => simp [intOf]; omega)
    · obtain rfl : k = ac.length := by omega
      have HN := Lib.hid (show misses n z ac = none by rw [← HM.out, List.drop_length]; rfl)
      go_wp2
      refine bodyPost_ret (want_ret _ _ rb 0 0 false rfl rfl ((R.out.set 0 _).set 1 _)) rfl ?_
      rw [HN.out]
      exact ⟨rfl, gb_over (gb_trans G0.out G.out) (gb_setB (gb_setB (gb_refl wr (some rb)) _) _) HRB.out⟩
end Go.Proofs.Ytkidkhjpijjphaa.oq

/- 'm[x] = append(m[x], ..)' in two steps: the entry, then what is put into it; of no program. -/
namespace Go.Proofs.Ytkidkhjpijjphaa.base
open Go Go.RowKit Go.Maps Go.ChangeMaps
set_option linter.unusedVariables false
set_option linter.unusedSimpArgs false

section
variable {P : Program} {k e t : TypeId} {κ : Type} {kv : κ → Value} {w w' : World} {b n : Nat} {f : κ → Option Value}
theorem MapG.entry (h : MapG P k kv w b n f) (K : Keyed P k) (KL : WideMaps.KeyLaw P k) (hinj : ∀ x y, kv x = kv y → x = y) (ht : P.underlying t = some (.map k e)) (hn : n < maxLen) {z : Value} (hz : ∀ u : World, (zeroValue e).run P u = .ok z u) {x : κ} {kl : Lit} (hx : keyOf P k (kv x) = some kl) :
    ∃ (st : Nat) (u1 : World), (Instr.mapEntry t (.map (some b)) (kv x)).run P w = .ok (.tuple #[(f x).getD z, goInt st]) u1 ∧ w.grownBy u1 (some b) ∧ (∃ es c, u1.heap[b]? = some (.map es c)) ∧
      ∀ (u2 : World) (val : Value), u2.heap[b]? = u1.heap[b]? → ∃ u3, (Instr.entryStore t (.map (some b)) (goInt st) val).run P u2 = .ok () u3 ∧ MapG P k kv u3 b (n + 1) (upd f x (some val)) ∧ u2.grownBy u3 (some b) := by
  have hg := h.get K ht (hz w) hx
  have hset := fun val => h.set K hinj ht hn hx val
  obtain ⟨D, ⟨es, clock, hb, F, hs, hD⟩, hf⟩ := h
  obtain ⟨v0, st, es1, clock1, hrun, hv0, hstore⟩ := WideElems.entry_then_store KL ht hz hb F hx
  have huniq : ∀ a c : MapEntry, a ∈ es.toList → c ∈ es.toList → a.key = c.key → a = c := fun a c ha hc he => by
    have hn := F.stamped.2.2
    obtain ⟨i, hi, rfl⟩ := List.mem_iff_getElem.1 ha
    obtain ⟨j, hj, rfl⟩ := List.mem_iff_getElem.1 hc
    have hp := List.pairwise_iff_getElem.1 hn
    rcases Nat.lt_trichotomy i j with l | l | l
    · have := hp i j (by simpa using hi) (by simpa using hj) l
      simp only [List.getElem_map] at this
      exact absurd he this
    · subst l; rfl
    · have := hp j i (by simpa using hj) (by simpa using hi) l
      simp only [List.getElem_map] at this
      exact absurd he.symm this
  have hv : v0 = (f x).getD z := by
    rcases Maps.fit_look false K ht (hz w) hb F hx with ⟨hr, hno, _⟩ | ⟨e0, y, he0, hy, hr, _⟩
    · rw [hg] at hr
      simp at hr
      rw [hr]
      rcases hv0 with ⟨e1, h1, h2, _⟩ | ⟨_, h2⟩
      · exact absurd h2 (hno e1 h1)
      · exact h2
    · rw [hg] at hr
      simp at hr
      rw [hr]
      rcases hv0 with ⟨e1, h1, h2, h3⟩ | ⟨h1, _⟩
      · rw [h3, huniq e1 e0 h1 he0 (h2.trans hy.symm)]
      · exact absurd hy (h1 e0 he0)
  have gset : ∀ (u : World) (o : Obj), (∃ es c, u.heap[b]? = some (.map es c)) → u.grownBy (setBlock u b o) (some b) := by
    rintro u o ⟨es, c, hu⟩
    exact ⟨rfl, rfl, rfl, by simp [setBlock], fun i _ hi => heap_setBlock_other hu _ (fun e => hi (by rw [e]))⟩
  refine ⟨st, _, by rw [← hv]; exact hrun, gset w _ ⟨_, _, hb⟩, ⟨_, _, heap_setBlock_same hb _⟩, fun u2 val h2 => ?_⟩
  have h2' : u2.heap[b]? = some (.map es1 clock1) := h2.trans (heap_setBlock_same hb _)
  obtain ⟨es', clock', r1, r2⟩ := hstore u2 val h2'
  obtain ⟨w', r3, r4, _⟩ := hset val
  rw [r2] at r3
  injection r3 with _ r3
  subst r3
  exact ⟨_, r1, r4.keep ((heap_setBlock_same h2' _).trans (heap_setBlock_same hb _).symm), gset u2 _ ⟨_, _, h2'⟩⟩
end
end Go.Proofs.Ytkidkhjpijjphaa.base

/- Package opaque's walk: a try is asked. -/
namespace Go.Proofs.Ytkidkhjpijjphaa.oq
open Go Go.RowKit Go.Proofs.Ytkidkhjpijjphaa.base Go.Proofs.Ytkidkhjpijjphaa.hs Go.Proofs.Ytkidkhjpijjphaa.lg Go.Proofs.Ytkidkhjpijjphaa.md Go.Maps
set_option linter.unusedVariables false
set_option maxRecDepth 100000
set_option linter.unusedSimpArgs false

theorem rowWant : (144 : TypeId) < Try.prog.types.size := of_decide_eq_true (by kernel_rfl)
theorem klWant : WideMaps.KeyLaw Try.prog 144 := deep_law_laid laidOut17 (m := 2) (by omega) rowWant (by kernel_rfl) (by rw [Try.underlying144])
theorem kWant : Keyed Try.prog 144 := Keyed.of_law (deep_law_laid laidOut17 (m := 2) (by omega) rowWant (by kernel_rfl) (by rw [Try.underlying144]))
theorem keyWant {x : Int × Int} (h1 : (Lit.int .i64 x.1).wf = true) (h2 : (Lit.int .i64 x.2).wf = true) : ∃ kl, keyOf Try.prog 144 (two x) = some kl := by
  have hkt : Try.prog.keyType 144 = true := by kernel_rfl
  have hc : Try.prog.cellsOf 144 = 2 := by kernel_rfl
  have hci : Try.prog.cellsOf 3 = 1 := by kernel_rfl
  have hci2 : Try.prog.cellsOf 2 = 1 := by kernel_rfl
  have hs : Try.prog.types.size = (Try.prog.types.size - 1) + 1 := by kernel_rfl
  refine ⟨.string (keyBytes [.int .i64 x.1, .int .i64 x.2]), ?_⟩
  unfold keyOf two
  simp only [Try.underlying144]
  rw [if_pos (by simp [hkt, Value.formed, Try.underlying144, hc]), hs]
  unfold Program.keyLits
  simp only [Try.underlying144, Value.cells]
  have hk : ∀ (m : Nat) (v : Int), (Lit.int .i64 v).wf = true → Try.prog.keyLits (m + 1) 3 [.int .i64 v] = some [.int .i64 v] := fun m v h => by
    unfold Program.keyLits
    simp only [Try.underlying3]
    rw [if_pos ⟨trivial, h⟩]
  have hk2 : ∀ (m : Nat) (v : Int), (Lit.int .i64 v).wf = true → Try.prog.keyLits (m + 1) 2 [.int .i64 v] = some [.int .i64 v] := fun m v h => by
    unfold Program.keyLits
    simp only [Try.underlying2]
    rw [if_pos ⟨trivial, h⟩]
  obtain ⟨m, hm⟩ : ∃ m, Try.prog.types.size - 1 + 1 = m + 1 + 1 := ⟨Try.prog.types.size - 2, by kernel_rfl⟩
  rw [if_pos (by rw [hc]; exact ⟨rfl, by kernel_rfl⟩)]
  simp only [List.mapM_cons, List.mapM_nil, hci, hci2]
  have e1 : Try.prog.types.size - 1 = m + 1 := by omega
  rw [e1]
  simp [hk, hk2, h1, h2]
theorem infoInt2 : (Try.prog.info? 3).map (fun i => (i.zero, i.size, i.bytes)) = some (some (.int .i64 0), 1, 8) := by kernel_rfl
theorem zeroList (w : World) : (zeroValue 25).run Try.prog w = .ok (.slice none 0 0) w := by kernel_rfl

/-- The small numbers of a walk. -/
structure WkOk (ts : List Tr) (n : Nat) (p : Nat) (s : Wk) (N : Nat) : Prop where
  seen : s.seen.length = ts.length
  len : ts.length ≤ 1000
  n : n ≤ 1000000
  p : p ≤ 1000000
  lists : ∀ x, (s.M x).length ≤ N
  N : N ≤ 100000000000
  acs : ∀ t ∈ ts, t.ac.length ≤ 1000 ∧ ∀ a ∈ t.ac, AccWf a

theorem ask_seen (n : Nat) (z : Nat → Int) (p : Nat) (l : List Acc) (no : Nat) (s : Wk) : (base.ask n z p l no s).seen.length = s.seen.length := by
  unfold base.ask
  split
  · simp
  · split <;> rfl
theorem ask_lists (n : Nat) (z : Nat → Int) (p : Nat) (l : List Acc) (no : Nat) (s : Wk) (x : Int × Int) : ((base.ask n z p l no s).M x).length ≤ (s.M x).length + 1 := by
  unfold base.ask
  split
  · exact Nat.le_succ _
  · split
    · dsimp only
      split
      · simp
      · exact Nat.le_succ _
    · exact Nat.le_succ _
theorem WkOk.ask {ts : List Tr} {n p : Nat} {s : Wk} {N : Nat} (h : WkOk ts n p s N) (hN : N + 1 ≤ 100000000000) (z : Nat → Int) (l : List Acc) (no : Nat) : WkOk ts n p (base.ask n z p l no s) (N + 1) :=
  ⟨(ask_seen n z p l no s).trans h.seen, h.len, h.n, h.p, fun x => Nat.le_trans (ask_lists n z p l no s x) (Nat.succ_le_succ (h.lists x)), hN, h.acs⟩
theorem WkOk.more {ts : List Tr} {n p : Nat} {s : Wk} {N M : Nat} (h : WkOk ts n p s N) (hN : N ≤ M) (hM : M ≤ 100000000000) : WkOk ts n p s M := ⟨h.seen, h.len, h.n, h.p, fun x => Nat.le_trans (h.lists x) hN, hM, h.acs⟩

set_option maxHeartbeats 2000000 in
/-- One that fits. -/
theorem ask_fits (w : World) (F : Nat → Prop) (b : Nat) (ta : Option Addr) (tc : Nat) (ys : List (Tr × Value)) (n : Nat) (z : Nat → Int) (p : Nat) (s : Wk) (N : Nat) (no : Nat) (t : Tr) (yv : Value) (hT : TsAt w ta ys) (hy : ys[no]? = some (t, yv)) (h : WkM w F b (.slice ta ys.length tc) n z p s N) (ok : WkOk (ys.map Prod.fst) n p s N) (hf : fits n z t.ac = true) :
    Calls Try.prog 70 #[.pointer (some ⟨b, 0, none⟩), .int .i64 no] w fun r w' => r = .returned (.tuple #[]) ∧ ∃ F', Hid (WkM w' F' b (.slice ta ys.length tc) n z p ⟨s.seen.set no p, s.M⟩ N) ∧ Hid (Step F F' w w') := by
  obtain ⟨sv, vv, mb, rd, h0, hF⟩ := h
  have hno : no < ys.length := (List.getElem?_eq_some_iff.1 hy).1
  obtain ⟨tb, off, va, vc, rfl, htb, hv, hl, c0, c1, c2, c3, c4, c5, c6, c7, c8⟩ := hT.at hy
  dsimp only at hv hl c0 c1 c2 c3 c4 c5 c6 c7 c8
  subst hv
  have hac := ok.acs t (List.mem_map_of_mem (f := Prod.fst) (List.mem_of_getElem? hy))
  have hsl : s.seen.length = ys.length := by rw [ok.seen, List.length_map]
  obtain ⟨sa, sc, hsv⟩ := owns_slice h0.seen
  obtain ⟨g, hg⟩ : ∃ g, sv.ownBlock = some g := by
    rcases h0.seen.2 with ⟨_, h1⟩ | ⟨g, cap, cur, h1, _⟩
    · omega
    · exact ⟨g, by rw [h1]; rfl⟩
  have hsa : sa = some ⟨g, 0, none⟩ := by
    rw [hsv] at hg
    rcases h0.seen.2 with ⟨_, h1⟩ | ⟨g', cap, cur, h1, _⟩
    · omega
    · rw [hsv] at h1
      cases h1
      cases hg
      rfl
  subst hsa
  obtain ⟨ua, uc, hvv⟩ := owns_slice h0.vals
  subst hvv
  have H := Lib.hid h0
  have HF := Lib.hid hF
  have HL := Lib.hid hl
  have HAC := Lib.hid hac.2
  have HNZ := Lib.hid (show IsNums .i64 w ua n z from IsNums.of_own h0.vals)
  have HG := Lib.hid hg
  have FT := Lib.hid hf
  have hp6 : (p : Int) ≤ 1000000 := by have := ok.p; omega
  have hn6 : (no : Int) ≤ 1000000 := by have := ok.len; rw [List.length_map] at this; omega
  have hno' : (no : Int) < (ys.length : Int) := by omega
  have hno2 : (no : Int) < (s.seen.length : Int) := by omega
  have hacl : t.ac.length ≤ 1000000 := by have := hac.1; omega
  have b0 : w.cell? ⟨b, 0, none⟩ = some (.slice (some ⟨tb, off, none⟩) ys.length tc) := h0.blk.cell 0
  have bl := h0.blk.lt
  have GA := Lib.hid (World.grownBy_alloc w (.cells #[.int .i64 t.th, .int .i64 t.tx, .int .i64 t.at_, .int .i64 t.st, .int .i64 t.b, .int .i64 t.en, .int .i64 t.re, .bool t.co, .slice va t.ac.length vc] 41) none)
  have EB := Lib.hid (Blk.made w 41 #[.int .i64 t.th, .int .i64 t.tx, .int .i64 t.at_, .int .i64 t.st, .int .i64 t.b, .int .i64 t.en, .int .i64 t.re, .bool t.co, .slice va t.ac.length vc])
  have OKL := Lib.hid ok
  clear hT hy h0 hF hl hac hg hf ok
  go_enter Try.func70, Try.ntmps70
  go_upto_region 1 with fail
  generalize w.alloc _ = v at *; generalize hq : w.heap.size = q at *; have HQ := Lib.hid hq; clear hq; have d2 : v.cell? ⟨b, 2, none⟩ = some (.slice ua n uc) := GA.out.cell (H.out.blk.cell 2) (by simp); have e0 := EB.out.cell 0; have e1 := EB.out.cell 1; have e2 := EB.out.cell 2; have e3 := EB.out.cell 3; have e4 := EB.out.cell 4; have e5 := EB.out.cell 5; have e6 := EB.out.cell 6; have e7 := EB.out.cell 7; have e8 := EB.out.cell 8; have bv := World.block_lt_of_cell? _ _ d2; have qv := EB.out.lt; have K0 : Hid (v.grownBy v.drew none) := Lib.hid (gb_drew (gb_refl v none))
  go_wp2_with fail
  go_region_held3 (fun w' => Hid (v.grownBy w' none) ∧ w'.cell? ⟨b, 2, none⟩ = some (.slice ua n uc) ∧ w'.cell? ⟨q, 0, none⟩ = some (.int .i64 t.th) ∧ w'.cell? ⟨q, 1, none⟩ = some (.int .i64 t.tx) ∧ w'.cell? ⟨q, 2, none⟩ = some (.int .i64 t.at_) ∧ w'.cell? ⟨q, 3, none⟩ = some (.int .i64 t.st) ∧ w'.cell? ⟨q, 4, none⟩ = some (.int .i64 t.b) ∧ w'.cell? ⟨q, 5, none⟩ = some (.int .i64 t.en) ∧ w'.cell? ⟨q, 6, none⟩ = some (.int .i64 t.re) ∧ w'.cell? ⟨q, 7, none⟩ = some (.bool t.co) ∧ w'.cell? ⟨q, 8, none⟩ = some (.slice va t.ac.length vc)) (go_keep) (first | (go_at_call 16; refine (fits_any ua n uc z t va vc _ (HNZ.out.grown (gb_trans GA.out (by refine Hid.out ?_; assumption))) (HL.out.grown (gb_trans GA.out (by refine Hid.out ?_; assumption))) HAC.out hacl).mono ?_; rw [FT.out]; rintro r u ⟨rfl, gu⟩; have K : Hid (v.grownBy u none) := Lib.hid (gb_trans (by refine Hid.out ?_; assumption) gu.out); have x2 := K.out.cell d2 (by simp); have y0 := K.out.cell e0 (by simp); have y1 := K.out.cell e1 (by simp); have y2 := K.out.cell e2 (by simp); have y3 := K.out.cell e3 (by simp); have y4 := K.out.cell e4 (by simp); have y5 := K.out.cell e5 (by simp); have y6 := K.out.cell e6 (by simp); have y7 := K.out.cell e7 (by simp); have y8 := K.out.cell e8 (by simp)))
  have HU := Lib.hid (H.out.grown (gb_trans GA.out K.out))
  have GU := Lib.hid (gb_trans GA.out K.out)
  clear d2 e0 e1 e2 e3 e4 e5 e6 e7 e8 x2 y0 y1 y2 y3 y4 y5 y6 y7 y8 K0
  have k1 : u.cell? ⟨b, 1, none⟩ = some sv := HU.out.blk.cell 1
  rw [hsv] at k1
  have k3 : u.cell? ⟨b, 3, none⟩ = some (.int .i64 p) := HU.out.blk.cell 3
  obtain ⟨xq, kg⟩ : ∃ xq, u.cell? ⟨g, no, none⟩ = some (.int .i64 xq) := by
    have h1 := HU.out.seen
    rw [hsv] at h1
    have h2 := h1.cellAt no (by omega)
    rw [List.getElem?_map, List.getElem?_eq_getElem (by omega)] at h2
    exact ⟨_, h2⟩
  have kf : u.frozen? ⟨g, no, none⟩ = false := by
    obtain ⟨cs, hc⟩ := ownsRow_type HU.out.seen HG.out
    simp [World.frozen?, hc]
  have kl := HU.out.blk.lt
  have gl : g < u.heap.size := (HU.out.seen.lt g HG.out).2
  go_wp2_with fail
  go_region
  all_goals
    go_wp2
    (first | go_end0 | refine bodyPost_ret (results_none rfl _ _ _) rfl ?_)
    have hW := (HU.out.sees HG.out (no := no) (by omega) (p : Int)).grown (gb_drew (gb_refl _ none))
    exact ⟨rfl, F, ⟨sv, _, mb, rd, hW, HF.out⟩, ⟨((Only.none GU.out).trans (Only.of (gb_setB (gb_refl u (some g)) (.int .i64 p)) (fun i e _ => by cases e; exact HF.out _ (.inr (.inl HG.out))))).trans (Only.none (gb_drew (gb_refl _ none))), fun k hk => .inl hk⟩⟩

set_option maxHeartbeats 2000000 in
/-- One that never fits. -/
theorem ask_never (w : World) (F : Nat → Prop) (b : Nat) (ta : Option Addr) (tc : Nat) (ys : List (Tr × Value)) (n : Nat) (z : Nat → Int) (p : Nat) (s : Wk) (N : Nat) (no : Nat) (t : Tr) (yv : Value) (hT : TsAt w ta ys) (hy : ys[no]? = some (t, yv)) (h : WkM w F b (.slice ta ys.length tc) n z p s N) (ok : WkOk (ys.map Prod.fst) n p s N) (hf : fits n z t.ac = false) (hm : misses n z t.ac = none) :
    Calls Try.prog 70 #[.pointer (some ⟨b, 0, none⟩), .int .i64 no] w fun r w' => r = .returned (.tuple #[]) ∧ ∃ F', Hid (WkM w' F' b (.slice ta ys.length tc) n z p s N) ∧ Hid (Step F F' w w') := by
  obtain ⟨sv, vv, mb, rd, h0, hF⟩ := h; have hno : no < ys.length := (List.getElem?_eq_some_iff.1 hy).1; obtain ⟨tb, off, va, vc, rfl, htb, hv, hl, c0, c1, c2, c3, c4, c5, c6, c7, c8⟩ := hT.at hy; dsimp only at hv hl c0 c1 c2 c3 c4 c5 c6 c7 c8; subst hv; have hac := ok.acs t (List.mem_map_of_mem (f := Prod.fst) (List.mem_of_getElem? hy)); obtain ⟨ua, uc, hvv⟩ := owns_slice h0.vals; subst hvv; have H := Lib.hid h0; have HF := Lib.hid hF; have HL := Lib.hid hl; have HAC := Lib.hid hac.2; have HNZ := Lib.hid (show IsNums .i64 w ua n z from IsNums.of_own h0.vals); have FT := Lib.hid hf; have MS := Lib.hid hm; have hn6 : (no : Int) ≤ 1000000 := (by have := ok.len; rw [List.length_map] at this; omega)
  have hno' : (no : Int) < (ys.length : Int) := (by omega); have hacl : t.ac.length ≤ 1000000 := (by have := hac.1; omega); have b0 : w.cell? ⟨b, 0, none⟩ = some (.slice (some ⟨tb, off, none⟩) ys.length tc) := h0.blk.cell 0; have bl := h0.blk.lt; have GA := Lib.hid (World.grownBy_alloc w (.cells #[.int .i64 t.th, .int .i64 t.tx, .int .i64 t.at_, .int .i64 t.st, .int .i64 t.b, .int .i64 t.en, .int .i64 t.re, .bool t.co, .slice va t.ac.length vc] 41) none); have EB := Lib.hid (Blk.made w 41 #[.int .i64 t.th, .int .i64 t.tx, .int .i64 t.at_, .int .i64 t.st, .int .i64 t.b, .int .i64 t.en, .int .i64 t.re, .bool t.co, .slice va t.ac.length vc]); have OKL := Lib.hid ok; clear hT hy h0 hF hl hac hf hm ok
  go_enter Try.func70, Try.ntmps70
  go_upto_region 1 with fail
  generalize w.alloc _ = v at *; generalize hq : w.heap.size = q at *; have HQ := Lib.hid hq; clear hq; have d2 : v.cell? ⟨b, 2, none⟩ = some (.slice ua n uc) := GA.out.cell (H.out.blk.cell 2) (by simp); have e0 := EB.out.cell 0; have e1 := EB.out.cell 1; have e2 := EB.out.cell 2; have e3 := EB.out.cell 3; have e4 := EB.out.cell 4; have e5 := EB.out.cell 5; have e6 := EB.out.cell 6; have e7 := EB.out.cell 7; have e8 := EB.out.cell 8; have bv := World.block_lt_of_cell? _ _ d2; have qv := EB.out.lt; have K0 : Hid (v.grownBy v.drew none) := Lib.hid (gb_drew (gb_refl v none))
  go_wp2_with fail
  go_region_held3 (fun w' => Hid (v.grownBy w' none) ∧ w'.cell? ⟨b, 2, none⟩ = some (.slice ua n uc) ∧ w'.cell? ⟨q, 0, none⟩ = some (.int .i64 t.th) ∧ w'.cell? ⟨q, 1, none⟩ = some (.int .i64 t.tx) ∧ w'.cell? ⟨q, 2, none⟩ = some (.int .i64 t.at_) ∧ w'.cell? ⟨q, 3, none⟩ = some (.int .i64 t.st) ∧ w'.cell? ⟨q, 4, none⟩ = some (.int .i64 t.b) ∧ w'.cell? ⟨q, 5, none⟩ = some (.int .i64 t.en) ∧ w'.cell? ⟨q, 6, none⟩ = some (.int .i64 t.re) ∧ w'.cell? ⟨q, 7, none⟩ = some (.bool t.co) ∧ w'.cell? ⟨q, 8, none⟩ = some (.slice va t.ac.length vc)) (go_keep) (first | (go_at_call 16; refine (fits_any ua n uc z t va vc _ (HNZ.out.grown (gb_trans GA.out (by refine Hid.out ?_; assumption))) (HL.out.grown (gb_trans GA.out (by refine Hid.out ?_; assumption))) HAC.out hacl).mono ?_; rw [FT.out]; rintro r u ⟨rfl, gu⟩; have K : Hid (v.grownBy u none) := Lib.hid (gb_trans (by refine Hid.out ?_; assumption) gu.out); have x2 := K.out.cell d2 (by simp); have y0 := K.out.cell e0 (by simp); have y1 := K.out.cell e1 (by simp); have y2 := K.out.cell e2 (by simp); have y3 := K.out.cell e3 (by simp); have y4 := K.out.cell e4 (by simp); have y5 := K.out.cell e5 (by simp); have y6 := K.out.cell e6 (by simp); have y7 := K.out.cell e7 (by simp); have y8 := K.out.cell e8 (by simp)))
  go_wp2_with (first | (go_at_call 87; refine (misses_any b ua n uc z t va vc u x2 (HNZ.out.grown (gb_trans GA.out K.out)) (HL.out.grown (gb_trans GA.out K.out)) hacl).mono ?_; rw [MS.out]; dsimp only [missV]; rintro r u2 ⟨rfl, gu2⟩; have GU := Lib.hid (gb_trans (gb_trans GA.out K.out) gu2.out); clear d2 e0 e1 e2 e3 e4 e5 e6 e7 e8 x2 y0 y1 y2 y3 y4 y5 y6 y7 y8 K0 K) | go_in)
  (first | go_end0 | refine bodyPost_ret (results_none rfl _ _ _) rfl ?_)
  exact ⟨rfl, F, ⟨sv, _, mb, rd, H.out.grown (gb_alloc GU.out _), HF.out⟩, Step.none (gb_alloc GU.out _)⟩

theorem waits_done {v1 U w1 u3 : World} {b n N mb : Nat} {tv sv vv : Value} {z : Nat → Int} {p : Int} {s : Wk} {rd : Int × Int → Option Value} (HV : WkP v1 b tv n z p s N sv vv mb rd) (x : Int × Int) (no m : Nat) (la : Option Addr) (lc g' c' : Nat) (LV : (rd x).getD (.slice none 0 0) = .slice la m lc) (HM : m = (s.M x).length)
    (h1 : Only (fun k => k = mb) v1 U) (HO : w1.ownsRow 0 3 1 (.slice (some ⟨g', 0, none⟩) (m + 1) c') (m + 1) ((s.M x).map natV ++ [.int .i64 no])) (G1 : U.grownBy w1 (Value.slice la m lc).ownBlock) (V1 : some g' = (Value.slice la m lc).ownBlock ∨ U.heap.size ≤ g') (hmb : ∃ es c, w1.heap[mb]? = some (.map es c)) (M3 : MapG Try.prog 144 two u3 mb (N + 1) (upd rd x (some (.slice (some ⟨g', 0, none⟩) (m + 1) c')))) (G3 : w1.grownBy u3 (some mb)) :
    WkP u3 b tv n z p ⟨s.seen, fun y => if y = x then s.M y ++ [no] else s.M y⟩ (N + 1) sv vv mb (upd rd x (some (.slice (some ⟨g', 0, none⟩) (m + 1) c'))) ∧ Step (WkF b sv vv mb rd) (WkF b sv vv mb (upd rd x (some (.slice (some ⟨g', 0, none⟩) (m + 1) c')))) v1 u3 := by
  have hgm : ∀ k, (some g' : Option Nat) = some k → k ≠ mb := fun k e h => by
    cases e
    obtain ⟨cs, hc⟩ := ownsRow_type HO (k := g') rfl
    obtain ⟨es, c, hm⟩ := hmb
    rw [h, hm] at hc
    cases hc
  have hns : m + 1 = (s.M x ++ [no]).length := by rw [List.length_append, ← HM]; rfl
  refine HV.push x (.slice (some ⟨g', 0, none⟩) (m + 1) c') no ((h1.mono fun _ _ e => .inl e).trans ((Only.of G1 (fun k e _ => .inr (by rw [LV]; exact e))).trans (Only.of G3 (fun k e _ => .inl (by cases e; rfl))))) M3 ?_ ?_
  · rw [← hns, List.map_append]
    exact ownsRow_keep HO (fun k e => G3.block k (HO.lt k e).2 (by simp; exact hgm k e))
  · rw [LV]
    rcases V1 with h | h
    · exact .inl h
    · exact .inr ⟨g', rfl, Nat.le_trans h1.size h⟩

set_option maxHeartbeats 1000000 in
/-- One that waits. -/
theorem ask_waits (w : World) (F : Nat → Prop) (b : Nat) (ta : Option Addr) (tc : Nat) (ys : List (Tr × Value)) (n : Nat) (z : Nat → Int) (p : Nat) (s : Wk) (N : Nat) (no : Nat) (t : Tr) (yv : Value) (x1 x2 : Int) (hT : TsAt w ta ys) (hy : ys[no]? = some (t, yv)) (h : WkM w F b (.slice ta ys.length tc) n z p s N) (ok : WkOk (ys.map Prod.fst) n p s N) (hf : fits n z t.ac = false) (hm : misses n z t.ac = some (x1, x2)) :
    Calls Try.prog 70 #[.pointer (some ⟨b, 0, none⟩), .int .i64 no] w fun r w' => r = .returned (.tuple #[]) ∧ ∃ F', Hid (WkM w' F' b (.slice ta ys.length tc) n z p ⟨s.seen, fun y => if y = (x1, x2) then s.M y ++ [no] else s.M y⟩ (N + 1)) ∧ Hid (Step F F' w w') := by
  obtain ⟨sv, vv, mb, rd, h0, hF⟩ := h; have hno : no < ys.length := (List.getElem?_eq_some_iff.1 hy).1; obtain ⟨tb, off, va, vc, rfl, htb, hv, hl, c0, c1, c2, c3, c4, c5, c6, c7, c8⟩ := hT.at hy; dsimp only at hv hl c0 c1 c2 c3 c4 c5 c6 c7 c8; subst hv; have hac := ok.acs t (List.mem_map_of_mem (f := Prod.fst) (List.mem_of_getElem? hy)); obtain ⟨ua, uc, hvv⟩ := owns_slice h0.vals; subst hvv; have H := Lib.hid h0; have HF := Lib.hid hF; have HL := Lib.hid hl; have HAC := Lib.hid hac.2; have HNZ := Lib.hid (show IsNums .i64 w ua n z from IsNums.of_own h0.vals); have FT := Lib.hid hf; have MS := Lib.hid hm; have hn6 : (no : Int) ≤ 1000000 := (by have := ok.len; rw [List.length_map] at this; omega)
  have hkey : (Lit.int .i64 x1).wf = true ∧ (Lit.int .i64 x2).wf = true := by
    obtain ⟨a, ha, _, he, _⟩ := misses_some hm
    injection he with he1 he2
    exact ⟨he1 ▸ (hac.2 a ha).ob, he2 ▸ (hac.2 a ha).va⟩
  obtain ⟨kl, hkl⟩ := keyWant (x := (x1, x2)) hkey.1 hkey.2
  have KL := Lib.hid hkl
  have hN := ok.N
  have hlx := ok.lists (x1, x2)
  clear hkey hkl
  have hno' : (no : Int) < (ys.length : Int) := (by omega); have hacl : t.ac.length ≤ 1000000 := (by have := hac.1; omega); have b0 : w.cell? ⟨b, 0, none⟩ = some (.slice (some ⟨tb, off, none⟩) ys.length tc) := h0.blk.cell 0; have bl := h0.blk.lt; have GA := Lib.hid (World.grownBy_alloc w (.cells #[.int .i64 t.th, .int .i64 t.tx, .int .i64 t.at_, .int .i64 t.st, .int .i64 t.b, .int .i64 t.en, .int .i64 t.re, .bool t.co, .slice va t.ac.length vc] 41) none); have EB := Lib.hid (Blk.made w 41 #[.int .i64 t.th, .int .i64 t.tx, .int .i64 t.at_, .int .i64 t.st, .int .i64 t.b, .int .i64 t.en, .int .i64 t.re, .bool t.co, .slice va t.ac.length vc]); have OKL := Lib.hid ok; clear hT hy h0 hF hl hac hf hm ok
  go_enter Try.func70, Try.ntmps70
  go_upto_region 1 with fail
  generalize w.alloc _ = v at *; generalize hq : w.heap.size = q at *; have HQ := Lib.hid hq; clear hq; have d2 : v.cell? ⟨b, 2, none⟩ = some (.slice ua n uc) := GA.out.cell (H.out.blk.cell 2) (by simp); have e0 := EB.out.cell 0; have e1 := EB.out.cell 1; have e2 := EB.out.cell 2; have e3 := EB.out.cell 3; have e4 := EB.out.cell 4; have e5 := EB.out.cell 5; have e6 := EB.out.cell 6; have e7 := EB.out.cell 7; have e8 := EB.out.cell 8; have bv := World.block_lt_of_cell? _ _ d2; have qv := EB.out.lt; have K0 : Hid (v.grownBy v.drew none) := Lib.hid (gb_drew (gb_refl v none))
  go_wp2_with fail
  go_region_held3 (fun w' => Hid (v.grownBy w' none) ∧ w'.cell? ⟨b, 2, none⟩ = some (.slice ua n uc) ∧ w'.cell? ⟨q, 0, none⟩ = some (.int .i64 t.th) ∧ w'.cell? ⟨q, 1, none⟩ = some (.int .i64 t.tx) ∧ w'.cell? ⟨q, 2, none⟩ = some (.int .i64 t.at_) ∧ w'.cell? ⟨q, 3, none⟩ = some (.int .i64 t.st) ∧ w'.cell? ⟨q, 4, none⟩ = some (.int .i64 t.b) ∧ w'.cell? ⟨q, 5, none⟩ = some (.int .i64 t.en) ∧ w'.cell? ⟨q, 6, none⟩ = some (.int .i64 t.re) ∧ w'.cell? ⟨q, 7, none⟩ = some (.bool t.co) ∧ w'.cell? ⟨q, 8, none⟩ = some (.slice va t.ac.length vc)) (go_keep) (first | (go_at_call 16; refine (fits_any ua n uc z t va vc _ (HNZ.out.grown (gb_trans GA.out (by refine Hid.out ?_; assumption))) (HL.out.grown (gb_trans GA.out (by refine Hid.out ?_; assumption))) HAC.out hacl).mono ?_; rw [FT.out]; rintro r u ⟨rfl, gu⟩; have K : Hid (v.grownBy u none) := Lib.hid (gb_trans (by refine Hid.out ?_; assumption) gu.out); have x2 := K.out.cell d2 (by simp); have y0 := K.out.cell e0 (by simp); have y1 := K.out.cell e1 (by simp); have y2 := K.out.cell e2 (by simp); have y3 := K.out.cell e3 (by simp); have y4 := K.out.cell e4 (by simp); have y5 := K.out.cell e5 (by simp); have y6 := K.out.cell e6 (by simp); have y7 := K.out.cell e7 (by simp); have y8 := K.out.cell e8 (by simp)))
  obtain ⟨i0, hi0, hz00, hz10, hz20⟩ := info_parts infoInt2
  have hi := Lib.hid hi0
  have hz0 := Lib.hid hz00
  have hz1 := Lib.hid hz10
  have hz2 := Lib.hid hz20
  clear hi0 hz00 hz10 hz20
  go_upto_region 5 with (first | (go_at_call 87; refine (misses_any b ua n uc z t va vc u x2 (HNZ.out.grown (gb_trans GA.out K.out)) (HL.out.grown (gb_trans GA.out K.out)) hacl).mono ?_; rw [MS.out]; dsimp only [missV]; rintro r u2 ⟨rfl, gu2⟩; have GU := Lib.hid (gb_trans (gb_trans GA.out K.out) gu2.out); clear d2 e0 e1 e2 e3 e4 e5 e6 e7 e8 x2 y0 y1 y2 y3 y4 y5 y6 y7 y8 K0 K) | go_in)
  have GV := Lib.hid (gb_alloc GU.out (.cells #[.int .i64 x1, .int .i64 x2] 144))
  have EW := Lib.hid (Blk.made u2 144 #[.int .i64 x1, .int .i64 x2])
  have HV := Lib.hid (H.out.grown GV.out)
  clear EB GU gu2 gu
  generalize u2.alloc _ = v1 at *
  generalize hq5 : u2.heap.size = q5 at *
  clear hq5
  obtain ⟨lv, hlv, hlrow⟩ : ∃ lv, (rd (x1, x2)).getD (.slice none 0 0) = lv ∧ v1.ownsRow 0 3 1 lv (s.M (x1, x2)).length ((s.M (x1, x2)).map natV) := by
    cases e : rd (x1, x2) with
    | none => exact ⟨_, rfl, by rw [HV.out.nope _ e]; exact World.ownsRow_nil _ _ _ _⟩
    | some u => exact ⟨u, rfl, HV.out.lst _ u e⟩
  obtain ⟨la, lc, rfl⟩ := owns_slice hlrow
  have hune : ∀ k, (Value.slice la (s.M (x1, x2)).length lc).ownBlock = some k → k ≠ b ∧ k ≠ mb ∧ k < v1.heap.size ∧ ∃ cs, v1.heap[k]? = some (.cells cs 3 (0, 0)) := fun k e => by
    cases hrd : rd (x1, x2) with
    | none =>
      rw [hrd] at hlv
      have h2 : (Value.slice none 0 0).ownBlock = some k := by rw [show (Value.slice none 0 0) = .slice la (s.M (x1, x2)).length lc from hlv]; exact e
      cases h2
    | some x =>
      rw [hrd] at hlv
      have := HV.out.list_ne (show rd (x1, x2) = some (.slice la (s.M (x1, x2)).length lc) by rw [hrd]; exact congrArg some hlv) k e
      exact ⟨this.1, this.2.2.2.1, this.2.2.2.2, ownsRow_type hlrow e⟩
  obtain ⟨m, hm⟩ : ∃ m, m = (s.M (x1, x2)).length := ⟨_, rfl⟩
  have HM := Lib.hid hm
  rw [← hm] at hlv hune hlrow hlx
  have UN := Lib.hid hune
  have RW := Lib.hid hlrow
  have LV := Lib.hid hlv
  clear hlv hune hlrow hm
  have c4 : v1.cell? ⟨b, 4, none⟩ = some (.map (some mb)) := HV.out.blk.cell 4
  have w0 : v1.cell? ⟨q5, 0, none⟩ = some (.int .i64 x1) := EW.out.cell 0
  have w1 : v1.cell? ⟨q5, 1, none⟩ = some (.int .i64 x2) := EW.out.cell 1
  have bl1 := HV.out.blk.lt
  have ql := EW.out.lt
  have hMG1 : MapG Try.prog 144 two (v1.alloc (.cells #[.int .i64 no] 3)).drew mb N rd := HV.out.map.grown (show World.grownBy v1 (v1.alloc (.cells #[.int .i64 no] 3)).drew none from (by repeat (first | exact gb_refl _ _ | refine gb_drewN ?_ _ | refine gb_drew ?_ | refine gb_alloc ?_ _))) (by simp)
  have hN6 : N < maxLen := by unfold maxLen; omega
  obtain ⟨stB, uB, runB, gB, mB, nextB⟩ := hMG1.entry kWant klWant two_inj Try.underlying64 hN6 zeroList KL.out
  rw [LV.out] at runB
  have runB' : (Instr.mapEntry 64 (.map (some mb)) (.agg #[.int .i64 x1, .int .i64 x2])).run Try.prog (v1.alloc (.cells #[.int .i64 no] 3)).drew = .ok (.tuple #[.slice la m lc, .int .i64 stB]) uB := runB
  clear runB hMG1
  have nb : (some b : Option Nat) ≠ some mb := by simp; exact fun e => HV.out.map_ne.1 e.symm
  have nq : (some q5 : Option Nat) ≠ some mb := by simp; exact fun e => HV.out.map.ne_blk EW.out e.symm
  have BB := Lib.hid (((HV.out.blk.alloc (.cells #[.int .i64 no] 3)).drew).grown gB nb)
  have EBB := Lib.hid (((EW.out.alloc (.cells #[.int .i64 no] 3)).drew).grown gB nq)
  have b4 : uB.cell? ⟨b, 4, none⟩ = some (.map (some mb)) := BB.out.cell 4
  have b5 : uB.cell? ⟨q5, 0, none⟩ = some (.int .i64 x1) := EBB.out.cell 0
  have b6 : uB.cell? ⟨q5, 1, none⟩ = some (.int .i64 x2) := EBB.out.cell 1
  have lmb : ∀ k, (Value.slice la m lc).ownBlock = some k → (some k : Option Nat) ≠ some mb := fun k e h => (UN.out k e).2.1 (by injection h)
  have RB := Lib.hid (ownsRow_keep (w' := uB) RW.out (fun k e => (gB.block k (by simp; exact Nat.lt_succ_of_lt (UN.out k e).2.2.1) (lmb k e)).trans (Below.heap_alloc _ _ _ (UN.out k e).2.2.1)))
  have OB := Lib.hid ((Only.none (S := fun k => k = mb) (show World.grownBy v1 (v1.alloc (.cells #[.int .i64 no] 3)).drew none from (by repeat (first | exact gb_refl _ _ | refine gb_drewN ?_ _ | refine gb_drew ?_ | refine gb_alloc ?_ _)))).trans (Only.of gB (fun k e _ => by cases e; rfl)))
  have newB : ∀ j u, [Value.int .i64 no][j]? = some u → uB.cell? ((⟨v1.heap.size, 0, none⟩ : Addr).add j) = some u := fun j u hj => by
    have hs := new_cells v1 [.int .i64 no] 3 j u hj
    match j, hj with
    | 0, hj => exact gB.cell (by simpa using hs) (by simp; exact Nat.ne_of_gt HV.out.map.lt)
  have NB := Lib.hid newB
  have MB := Lib.hid mB
  have NB2 := Lib.hid nextB
  clear gB mB nextB newB
  go_wp2_with fail
  go_region_held_law (fun w' => w'.cell? ⟨b, 4, none⟩ = some (.map (some mb)) ∧ w'.cell? ⟨q5, 0, none⟩ = some (.int .i64 x1) ∧ w'.cell? ⟨q5, 1, none⟩ = some (.int .i64 x2)) (go_keep) ((refine step_append_at rfl (.tmp 42) (.tmp 44) 25 rfl 0 3 i0 (.int .i64 0) 1 8 Try.underlying25 hi.out hz0.out hz1.out hz2.out rfl (by decide) (.slice la m lc) m ((s.M (x1, x2)).map natV) (by simp [Act.eval]) (w := uB) RB.out ⟨v1.heap.size, 0, none⟩ 1 1 [.int .i64 no] (by simp [Act.eval]) rfl NB.out (by simp [Value.oneCell']) (by unfold maxLen; omega) (by omega) (Nat.zero_le _) (by decide) ?_; intro g' c' w1' ho1 hg1 hv1; have x4 := hg1.cell b4 (by intro h9; exact (UN.out _ h9.symm).1 rfl); have x5 := hg1.cell b5 (by intro h9; obtain ⟨cs, hc⟩ := (UN.out _ h9.symm).2.2.2; exact absurd (not_cells_of hc EW.out) (by decide)); have x6 := hg1.cell b6 (by intro h9; obtain ⟨cs, hc⟩ := (UN.out _ h9.symm).2.2.2; exact absurd (not_cells_of hc EW.out) (by decide)); obtain ⟨u3, hU, hm3, hg3⟩ := NB2.out w1' (.slice (some ⟨g', 0, none⟩) (m + 1) c') (hg1.block mb (by obtain ⟨es, c, h⟩ := MB.out; exact (Array.getElem?_eq_some_iff.1 h).1) (by intro h9; exact (UN.out _ h9.symm).2.1 rfl)); have hU' : (Instr.entryStore 64 (.map (some mb)) (.int .i64 stB) (.slice (some ⟨g', 0, none⟩) (m + 1) c')).run Try.prog w1' = .ok () u3 := hU; have y4 := hg3.cell x4 nb; have y5 := hg3.cell x5 nq; have y6 := hg3.cell x6 nq; have hmb1 : ∃ es c, w1'.heap[mb]? = some (.map es c) := (by obtain ⟨es, c, h⟩ := MB.out; exact ⟨es, c, (hg1.block mb (by obtain ⟨es, c, h⟩ := MB.out; exact (Array.getElem?_eq_some_iff.1 h).1) (by intro h9; exact (UN.out _ h9.symm).2.1 rfl)).trans h⟩); have DN := Lib.hid (waits_done HV.out (x1, x2) no m la lc g' c' LV.out HM.out OB.out ho1 hg1 hv1 hmb1 hm3 hg3); clear hU ho1 hg1 hv1 hm3 hg3 hmb1))
  all_goals
    go_wp2
    (first | go_end0 | refine bodyPost_ret (results_none rfl _ _ _) rfl ?_)
    refine ⟨rfl, fun k => WkF b sv (.slice ua n uc) mb (upd rd (x1, x2) (some (.slice (some ⟨g', 0, none⟩) (m + 1) c'))) k, ⟨sv, _, mb, _, DN.out.1, fun _ h => h⟩, ?_⟩
    refine Step.trans (Step.none GV.out) ⟨DN.out.2.only.mono fun k _ hk => HF.out k hk, fun k hk => ?_⟩
    rcases DN.out.2.foot k hk with h | h
    · exact .inl (HF.out k h)
    · exact .inr h

theorem ask_any (w : World) (F : Nat → Prop) (b : Nat) (ta : Option Addr) (tc : Nat) (ys : List (Tr × Value)) (n : Nat) (z : Nat → Int) (p : Nat) (s : Wk) (N : Nat) (no : Nat) (t : Tr) (yv : Value) (hT : TsAt w ta ys) (hy : ys[no]? = some (t, yv)) (h : WkM w F b (.slice ta ys.length tc) n z p s N) (ok : WkOk (ys.map Prod.fst) n p s N) :
    Calls Try.prog 70 #[.pointer (some ⟨b, 0, none⟩), .int .i64 no] w fun r w' => r = .returned (.tuple #[]) ∧ ∃ F', Hid (WkM w' F' b (.slice ta ys.length tc) n z p (base.ask n z p t.ac no s) (N + 1)) ∧ Hid (Step F F' w w') := by
  unfold base.ask
  by_cases hf : fits n z t.ac = true
  · rw [if_pos hf]
    refine (ask_fits w F b ta tc ys n z p s N no t yv hT hy h ok hf).mono ?_
    rintro r w' ⟨rfl, F', h1, h2⟩
    exact ⟨rfl, F', h1.out.more (Nat.le_succ _), h2⟩
  · have hf' : fits n z t.ac = false := by simpa using hf
    rw [if_neg hf]
    cases hm : misses n z t.ac with
    | none =>
      refine (ask_never w F b ta tc ys n z p s N no t yv hT hy h ok hf' hm).mono ?_
      rintro r w' ⟨rfl, F', h1, h2⟩
      exact ⟨rfl, F', h1.out.more (Nat.le_succ _), h2⟩
    | some x =>
      obtain ⟨x1, x2⟩ := x
      exact ask_waits w F b ta tc ys n z p s N no t yv x1 x2 hT hy h ok hf' hm
end Go.Proofs.Ytkidkhjpijjphaa.oq

/- Package opaque's walk: the next state is made of this one, in place. -/
namespace Go.Proofs.Ytkidkhjpijjphaa.oq
open Go Go.RowKit Go.Proofs.Ytkidkhjpijjphaa.base Go.Proofs.Ytkidkhjpijjphaa.hs Go.Proofs.Ytkidkhjpijjphaa.lg Go.Proofs.Ytkidkhjpijjphaa.md Go.Maps
set_option linter.unusedVariables false
set_option maxRecDepth 100000
set_option linter.unusedSimpArgs false

theorem writes_append (n : Nat) (m : List Acc) : ∀ l : List Acc, writes n (l ++ m) = writes n l ++ writes n m
  | [] => rfl
  | a :: l => by
    rw [List.cons_append, writes, writes, writes_append n m l]
    split <;> simp
theorem writes_take {n : Nat} {l : List Acc} {k : Nat} {y : Acc} (h : l[k]? = some y) : writes n (l.take (k + 1)) = if y.k = 3 ∧ 0 ≤ y.ob ∧ y.ob < (n : Int) then writes n (l.take k) ++ [y.ob.toNat] else writes n (l.take k) := by
  rw [List.take_add_one, h]
  show writes n (l.take k ++ [y]) = _
  rw [writes_append, writes, writes]
  split <;> simp
theorem writes_len (n : Nat) : ∀ l : List Acc, (writes n l).length ≤ l.length
  | [] => Nat.le_refl _
  | a :: l => by
    have := writes_len n l
    rw [writes]
    split <;> simp <;> omega
theorem infoInt3 : (Try.prog.info? 3).map (fun i => (i.zero, i.size, i.bytes)) = some (some (.int .i64 0), 1, 8) := by kernel_rfl

/-- What stands while a try's accesses are gone through. -/
structure ChgI (w : World) (b : Nat) (tv : Value) (n : Nat) (z : Nat → Int) (p : Int) (s : Wk) (N : Nat) (sv vv : Value) (mb : Nat) (rd : Int × Int → Option Value) (ac : List Acc) (k : Nat) (ov : Value) (wr : World) : Prop where
  wk : WkP wr b tv n (app z (ac.take k)) p s N sv vv mb rd
  row : wr.ownsRow 0 3 1 ov (writes n (ac.take k)).length ((writes n (ac.take k)).map natV)
  new : ∀ i, ov.ownBlock = some i → w.heap.size ≤ i
  only : Only (WkF b sv vv mb rd) w wr

theorem WkP.congrZ {w : World} {b n N mb : Nat} {tv sv vv : Value} {z y : Nat → Int} {p : Int} {s : Wk} {rd : Int × Int → Option Value} (h : WkP w b tv n z p s N sv vv mb rd) (hz : ∀ i, i < n → y i = z i) : WkP w b tv n y p s N sv vv mb rd :=
  ⟨h.blk, h.seen, by
    have e : base.vals y n = base.vals z n := by
      unfold base.vals
      refine List.map_congr_left fun i hi => ?_
      rw [hz i (List.mem_range.1 hi)]
    rw [e]
    exact h.vals, h.map, h.nope, h.lst, h.apart, h.sap⟩
theorem app1_same {n : Nat} {y : Acc} (z : Nat → Int) (h : ¬ (y.k = 3 ∧ 0 ≤ y.ob ∧ y.ob < (n : Int))) : ∀ i, i < n → app1 y z i = z i := fun i hi => by
  unfold app1
  rw [if_neg]
  rintro ⟨h1, h2⟩
  exact h ⟨h1, by omega, by omega⟩
theorem gb_only {w0 w wr : World} {S : Nat → Prop} (g : w0.grownBy w none) (h : Only S w wr) (hS : ∀ k, S k → w0.heap.size ≤ k) : w0.grownBy wr none :=
  have B := h.below (gb_below g) g.size hS
  ⟨B.os, B.tape, B.output, B.size, fun k hk _ => B.block k hk⟩

theorem ChgI.next {w wr v2 w1 : World} {b n N mb k o : Nat} {tv sv vv ov : Value} {z : Nat → Int} {p va : Int} {s : Wk} {rd : Int × Int → Option Value} {ac : List Acc} {g' c' m : Nat} {ob : Obj} (I : ChgI w b tv n z p s N sv vv mb rd ac k ov wr) (lts : ∀ i, WkF b sv vv mb rd i → i < w.heap.size) (HW : writes n (ac.take (k + 1)) = writes n (ac.take k) ++ [o]) (HA : app z (ac.take (k + 1)) = fun i => if i = o then va else app z (ac.take k) i) (hm : m = (writes n (ac.take k)).length)
    (H2 : WkP v2 b tv n (fun i => if i = o then va else app z (ac.take k) i) p s N sv vv mb rd) (O2 : Only (WkF b sv vv mb rd) wr v2) (HG : (v2.alloc ob).grownBy w1 ov.ownBlock) (HO : w1.ownsRow 0 3 1 (.slice (some ⟨g', 0, none⟩) (m + 1) c') (m + 1) ((writes n (ac.take k)).map natV ++ [.int .i64 o])) (HV : some g' = ov.ownBlock ∨ (v2.alloc ob).heap.size ≤ g') :
    ChgI w b tv n z p s N sv vv mb rd ac (k + 1) (.slice (some ⟨g', 0, none⟩) (m + 1) c') w1 := by
  have hlen : (writes n (ac.take (k + 1))).length = m + 1 := by rw [HW, List.length_append, hm]; rfl
  refine ⟨?_, ?_, ?_, ?_⟩
  · rw [HA]
    refine (H2.grown (World.grownBy_alloc v2 ob none)).keep fun i hi => HG.block i (Nat.lt_of_lt_of_le (H2.lts i hi) (by simp)) (fun e => ?_)
    have := I.new i e.symm
    have := lts i hi
    omega
  · rw [hlen, HW, List.map_append]
    exact HO
  · intro i e
    have h1 := I.only.size
    have h2 := O2.size
    rcases HV with h | h
    · exact I.new i (by rw [← h]; exact e)
    · have e1 : g' = i := by injection e
      subst e1
      simp at h
      omega
  · refine only_later ((I.only.trans O2).trans (Only.none (World.grownBy_alloc v2 ob none))) (Only.of (S := fun i => ov.ownBlock = some i) HG (fun i e _ => e)) (fun i hi e => ?_)
    have := I.new i e
    omega

set_option maxHeartbeats 2000000 in
theorem change_any (w0 w : World) (F : Nat → Prop) (b : Nat) (tv : Value) (n : Nat) (z : Nat → Int) (p : Int) (s : Wk) (N : Nat) (t : Tr) (av : Option Addr) (vc : Nat) (h : WkM w F b tv n z p s N) (hl : IsL accC w0 av t.ac) (g0 : w0.grownBy w none) (hFB : ∀ k, F k → w0.heap.size ≤ k) (hm : t.ac.length ≤ 1000) (hn : n ≤ 1000000) :
    Calls Try.prog 71 #[.pointer (some ⟨b, 0, none⟩), .agg ⟨trC t (.slice av t.ac.length vc)⟩] w fun r w' => ∃ ov F', r = .returned ov ∧ Hid (WkM w' F' b tv n (app z t.ac) p s N) ∧ Hid (Step F F' w w') ∧ Hid (w'.ownsRow 0 3 1 ov (writes n t.ac).length ((writes n t.ac).map natV)) ∧ Hid (∀ k, ov.ownBlock = some k → ¬ F' k ∧ w.heap.size ≤ k) := by
  obtain ⟨xth, xtx, xat, xst, xb, xen, xre, xco, ac⟩ := t
  dsimp only at hl hm
  show Calls Try.prog 71 #[.pointer (some ⟨b, 0, none⟩), .agg #[.int .i64 xth, .int .i64 xtx, .int .i64 xat, .int .i64 xst, .int .i64 xb, .int .i64 xen, .int .i64 xre, .bool xco, .slice av ac.length vc]] w _
  obtain ⟨sv, vv, mb, rd, h0, hF⟩ := h
  obtain ⟨i0, hi0, hz00, hz10, hz20⟩ := info_parts infoInt3
  have hi := Lib.hid hi0
  have hz0 := Lib.hid hz00
  have hz1 := Lib.hid hz10
  have hz2 := Lib.hid hz20
  have HL := Lib.hid hl
  have HF := Lib.hid hF
  have HFB := Lib.hid (show ∀ k, WkF b sv vv mb rd k → w0.heap.size ≤ k from fun k hk => hFB k (hF k hk))
  have G0 := Lib.hid g0
  have H := Lib.hid h0
  have GA := Lib.hid (World.grownBy_alloc w (.cells #[.int .i64 xth, .int .i64 xtx, .int .i64 xat, .int .i64 xst, .int .i64 xb, .int .i64 xen, .int .i64 xre, .bool xco, .slice av ac.length vc] 41) none)
  have I0 : Hid (ChgI w b tv n z p s N sv vv mb rd ac 0 (.slice none 0 0) (w.alloc (.cells #[.int .i64 xth, .int .i64 xtx, .int .i64 xat, .int .i64 xst, .int .i64 xb, .int .i64 xen, .int .i64 xre, .bool xco, .slice av ac.length vc] 41))) := Lib.hid ⟨h0.grown GA.out, World.ownsRow_nil _ _ _ _, (fun i e => by cases e), Only.none GA.out⟩
  clear hl hF h0 g0 hFB hi0 hz00 hz10 hz20
  go_enter Try.func71, Try.ntmps71
  go_wp2_with fail
  generalize w.alloc _ = v0 at *
  go_loopw [5, 11] (fun ov iv wr => ∃ k : Nat, k ≤ ac.length ∧ iv = .int .i64 k ∧ Hid (ChgI w b tv n z p s N sv vv mb rd ac k ov wr)) (fun _ iv _ => (ac.length - intOf iv).toNat)
  case atStart => exact ⟨0, by omega, rfl, I0⟩
  case round =>
    clear I0
    obtain ⟨k, hk, rfl, I⟩ := hrel
    have GW := Lib.hid (gb_only G0.out I.out.only HFB.out)
    obtain ⟨oa, oc, rfl⟩ := owns_slice I.out.row
    have hwl := writes_len n (ac.take k)
    rw [List.length_take] at hwl
    by_cases hlt : k < ac.length
    · have hlt' : (k : Int) < (ac.length : Int) := by omega
      have hk6 : (k : Int) < 1000000 := by omega
      have hget := List.getElem?_eq_getElem hlt
      obtain ⟨lb, off, rfl, hb, c0, c1, c3, c4, c5, c6⟩ := acc6 (HL.out.grown GW.out) hget
      have HWT := Lib.hid (writes_take (n := n) hget)
      have HAT := Lib.hid (app_take z hget)
      clear hget
      generalize ac[k] = y at *
      obtain ⟨pl, ak, ob, va, own, rel⟩ := y
      dsimp only at c0 c1 c3 c4 c5 c6
      have bl := I.out.wk.blk.lt
      obtain ⟨ua, uc, hvv⟩ := owns_slice I.out.wk.vals
      subst hvv
      have d2 : wr.cell? ⟨b, 2, none⟩ = some (.slice ua n uc) := I.out.wk.blk.cell 2
      by_cases hc : ak = 3 ∧ 0 ≤ ob ∧ ob < (n : Int)
      · obtain ⟨rfl, ho1, ho2⟩ := hc
        obtain ⟨o, rfl⟩ : ∃ o : Nat, ob = (o : Int) := ⟨ob.toNat, by omega⟩
        have ho : o < n := by omega
        have HW : Hid (writes n (ac.take (k + 1)) = writes n (ac.take k) ++ [o]) := Lib.hid (by rw [HWT.out, if_pos ⟨rfl, by dsimp only; omega, by dsimp only; omega⟩]; rfl)
        have HA : Hid (app z (ac.take (k + 1)) = fun i => if i = o then va else app z (ac.take k) i) := Lib.hid (by rw [HAT.out]; exact app1_in _ rfl rfl)
        clear HWT HAT ho1 ho2
        have GA1 := Lib.hid (World.grownBy_alloc wr (.cells #[.int .i64 pl, .int .i64 3, .int .i64 o, .int .i64 va, .bool own, .bool rel] 48) none)
        have EB := Lib.hid (Blk.made wr 48 #[.int .i64 pl, .int .i64 3, .int .i64 o, .int .i64 va, .bool own, .bool rel])
        obtain ⟨g, hg⟩ : ∃ g, (Value.slice ua n uc).ownBlock = some g := by
          rcases I.out.wk.vals.2 with ⟨_, h1⟩ | ⟨g, cap, cur, h1, _⟩
          · omega
          · exact ⟨g, by rw [h1]; rfl⟩
        have hua : ua = some ⟨g, 0, none⟩ := by
          rcases I.out.wk.vals.2 with ⟨_, h1⟩ | ⟨g', cap, cur, h1, _⟩
          · omega
          · cases h1
            cases hg
            rfl
        subst hua
        have HV := Lib.hid (I.out.wk.grown GA1.out)
        have RO := Lib.hid (ownsRow_keep (w' := wr.alloc (.cells #[.int .i64 pl, .int .i64 3, .int .i64 o, .int .i64 va, .bool own, .bool rel] 48)) I.out.row (fun i e => GA1.out.block i (I.out.row.lt i e).2 (by simp)))
        go_upto_region 6 with (first | (go_at_call 88; refine (has_yes b _ n uc o _ ho (GA1.out.cell d2 (by simp))).mono ?_; rintro r u ⟨rfl, rfl⟩) | go_in)
        generalize wr.alloc _ = v1 at *
        generalize hq : wr.heap.size = q at *
        have HQ := Lib.hid hq
        clear hq
        have e2 : v1.cell? ⟨b, 2, none⟩ = some (.slice (some ⟨g, 0, none⟩) n uc) := HV.out.blk.cell 2
        have q1 : v1.cell? ⟨q, 1, none⟩ = some (.int .i64 3) := EB.out.cell 1
        have q2 : v1.cell? ⟨q, 2, none⟩ = some (.int .i64 o) := EB.out.cell 2
        have q3 : v1.cell? ⟨q, 3, none⟩ = some (.int .i64 va) := EB.out.cell 3
        have bv := HV.out.blk.lt
        have qv := EB.out.lt
        have kz : v1.cell? ⟨g, o, none⟩ = some (.int .i64 (app z (ac.take k) o)) := (HV.out.vals.cellAt o (by omega)).trans (vals_get _ _ _ ho)
        have kf : v1.frozen? ⟨g, o, none⟩ = false := by
          obtain ⟨cs, hc⟩ := ownsRow_type HV.out.vals hg
          simp [World.frozen?, hc]
        have gl : g < v1.heap.size := (HV.out.vals.lt g hg).2
        have ho' : (o : Int) < (n : Int) := by omega
        have hqg : q ≠ g := fun e => by
          obtain ⟨cs, hc⟩ := ownsRow_type HV.out.vals hg
          exact absurd (not_cells_of hc (e ▸ EB.out)) (by decide)
        have HS := Lib.hid (HV.out.puts hg ho va)
        have HGG := Lib.hid hg
        have RO2 := Lib.hid (ownsRow_keep (w' := v1.setCell ⟨g, o, none⟩ (.int .i64 va)) RO.out (fun i e => Below.heap_setCell _ _ _ _ (fun e2 => by
          have := I.out.new i e
          have := H.out.lts g (.inr (.inr (.inl hg)))
          exact absurd e2 (by simp; omega))))
        have EB2 := Lib.hid (EB.out.keep (w' := v1.setCell ⟨g, o, none⟩ (.int .i64 va)) (Below.heap_setCell _ _ _ _ hqg))
        have O2 := Lib.hid ((Only.none (S := WkF b sv (.slice (some ⟨g, 0, none⟩) n uc) mb rd) GA1.out).trans (Only.of (gb_setB (gb_refl v1 (some g)) (i := o) (.int .i64 va)) (fun i e _ => by cases e; exact .inr (.inr (.inl hg)))))
        clear hg
        go_wp2_with fail
        go_region
        have H3 := Lib.hid (HS.out.grown (gb_drew (gb_refl _ none)))
        have RO3 := Lib.hid (ownsRow_keep (w' := (v1.setCell ⟨g, o, none⟩ (.int .i64 va)).drew) RO2.out (fun _ _ => rfl))
        have EB3 := Lib.hid (EB2.out.keep (w' := (v1.setCell ⟨g, o, none⟩ (.int .i64 va)).drew) rfl)
        have O3 := Lib.hid (O2.out.trans (Only.none (gb_drew (gb_refl (v1.setCell ⟨g, o, none⟩ (.int .i64 va)) none))))
        generalize (v1.setCell ⟨g, o, none⟩ (.int .i64 va)).drew = v2 at *
        have r2 : v2.cell? ⟨q, 2, none⟩ = some (.int .i64 o) := EB3.out.cell 2
        obtain ⟨m, hm⟩ : ∃ m, m = (writes n (ac.take k)).length := ⟨_, rfl⟩
        have HM := Lib.hid hm
        rw [← hm] at RO3 hwl
        rw [← hm]
        clear hm q1 q2 q3 e2 kz kf
        go_wp2_with (at_builtin; refine wpList_append_at _ rfl (.tmp 33) (.tmp 36) 25 rfl 0 3 i0 (.int .i64 0) 1 8 Try.underlying25 hi.out hz0.out hz1.out hz2.out rfl (by decide) (.slice oa m oc) m ((writes n (ac.take k)).map natV) rfl (RO3.out.alloc _) ⟨v2.heap.size, 0, none⟩ 1 1 [.int .i64 o] rfl rfl (new_cells _ _ _) (by intro u hu; simp at hu; subst hu; rfl) (by unfold maxLen; omega) (by omega) (Nat.zero_le _) (by decide) ?_; intro g' c' w1 ho1 hg1 hv1; have HO := Lib.hid ho1; have HG := Lib.hid hg1; have HVV := Lib.hid hv1; clear ho1 hg1 hv1)
        go_roundw
        case rel => exact ⟨k + 1, by omega, by go_num, ChgI.next (by have := I.out; rw [← HM.out] at this; exact this) H.out.lts HW.out HA.out HM.out H3.out O3.out HG.out HO.out HVV.out⟩
        case measure => simp [intOf]; omega
      · have HW : Hid (writes n (ac.take (k + 1)) = writes n (ac.take k)) := Lib.hid (by rw [HWT.out, if_neg hc])
        have HA : Hid (∀ i, i < n → app z (ac.take (k + 1)) i = app z (ac.take k) i) := Lib.hid (by rw [HAT.out]; exact app1_same _ hc)
        have GA1 := fun (kk oo : Int) => World.grownBy_alloc wr (.cells #[.int .i64 pl, .int .i64 kk, .int .i64 oo, .int .i64 va, .bool own, .bool rel] 48) none
        have NX : ∀ u, wr.grownBy u none → ChgI w b tv n z p s N sv (.slice ua n uc) mb rd ac (k + 1) (.slice oa (writes n (ac.take k)).length oc) u := fun u g => ⟨(I.out.wk.grown g).congrZ HA.out, by rw [HW.out]; exact ownsRow_keep I.out.row (fun i e => g.block i (I.out.row.lt i e).2 (by simp)), I.out.new, I.out.only.trans (Only.none g)⟩
        have NX := Lib.hid NX
        clear HWT HAT HW HA
        by_cases h3 : ak = 3
        · subst h3
          have ho : ob < 0 ∨ (n : Int) ≤ ob := by omega
          clear hc
          go_wp2_with (first | (go_at_call 88; refine (has_no b _ n uc ob _ ho ((GA1 3 ob).cell d2 (by simp))).mono ?_; rintro r u ⟨rfl, rfl⟩) | go_in)
          go_roundw
          case rel => exact ⟨k + 1, by omega, by go_num, NX.out _ (GA1 3 ob)⟩
          case measure => simp [intOf]; omega
        · have f3 : (ak == 3) = false := by simp [h3]
          clear hc h3
          go_wp2
          go_roundw
          case rel => exact ⟨k + 1, by omega, by go_num, NX.out _ (GA1 ak ob)⟩
          case measure => simp [intOf]; omega
    · obtain rfl : k = ac.length := by omega
      have hend : ac.take ac.length = ac := List.take_length
      go_wp2
      go_ret
      refine ⟨_, WkF b sv vv mb rd, rfl, ⟨sv, vv, mb, rd, by have := I.out.wk; rwa [hend] at this, fun _ h => h⟩, ⟨I.out.only.mono fun k _ hk => HF.out k hk, fun k hk => .inl (HF.out k hk)⟩, by have := I.out.row; rwa [hend] at this ⊢, fun i e => ⟨fun hk => ?_, I.out.new i e⟩⟩
      have := H.out.lts i hk
      have := I.out.new i e
      omega
end Go.Proofs.Ytkidkhjpijjphaa.oq

/- Package opaque's walk: those that wait for a value are woken. -/
namespace Go.Proofs.Ytkidkhjpijjphaa.oq
open Go Go.RowKit Go.Proofs.Ytkidkhjpijjphaa.base Go.Proofs.Ytkidkhjpijjphaa.hs Go.Proofs.Ytkidkhjpijjphaa.lg Go.Proofs.Ytkidkhjpijjphaa.md Go.Maps
set_option linter.unusedVariables false
set_option maxRecDepth 100000
set_option linter.unusedSimpArgs false

theorem wakes_snoc (ts : List Tr) (n : Nat) (z : Nat → Int) (p place : Nat) (no : Nat) : ∀ (l : List Nat) (s : Wk), wakes ts n z p place (l ++ [no]) s = wake1 ts n z p place no (wakes ts n z p place l s)
  | [], _ => rfl
  | _ :: l, s => wakes_snoc ts n z p place no l _
theorem wakes_take (ts : List Tr) (n : Nat) (z : Nat → Int) (p place : Nat) {l : List Nat} {k no : Nat} (h : l[k]? = some no) (s : Wk) : wakes ts n z p place (l.take (k + 1)) s = wake1 ts n z p place no (wakes ts n z p place (l.take k) s) := by
  rw [List.take_add_one, h]
  exact wakes_snoc ts n z p place no _ s

/-- What stands while they are woken: whoever is in hand lies in a block of its own. -/
structure WakI (w : World) (F : Nat → Prop) (b : Nat) (tv : Value) (ts : List Tr) (n : Nat) (z : Nat → Int) (p place : Nat) (s1 : Wk) (N : Nat) (who : List Nat) (u : Value) (k : Nat) (wr : World) (G : Nat → Prop) : Prop where
  wk : WkM wr G b tv n z p (wakes ts n z p place (who.take k) s1) (N + k)
  ok : WkOk ts n p (wakes ts n z p place (who.take k) s1) (N + k)
  row : wr.ownsRow 0 3 1 u who.length (who.map natV)
  sep : ∀ i, u.ownBlock = some i → ¬ G i
  step : Step F G w wr

theorem strike_sub {b mb : Nat} {sv vv : Value} {rd : Int × Int → Option Value} {x : Int × Int} : ∀ k, WkF b sv vv mb (upd rd x none) k → WkF b sv vv mb rd k := by
  rintro k (h | h | h | h | ⟨y, u, hy, hk⟩)
  · exact .inl h
  · exact .inr (.inl h)
  · exact .inr (.inr (.inl h))
  · exact .inr (.inr (.inr (.inl h)))
  · by_cases e : y = x
    · subst e
      rw [upd_same] at hy
      cases hy
    · rw [upd_other _ _ e] at hy
      exact .inr (.inr (.inr (.inr ⟨y, u, hy, hk⟩)))
theorem WkP.strike_sep {w : World} {b n N mb : Nat} {tv sv vv : Value} {z : Nat → Int} {p : Int} {s : Wk} {rd : Int × Int → Option Value} (h : WkP w b tv n z p s N sv vv mb rd) {x : Int × Int} {u : Value} (hu : rd x = some u) {i : Nat} (hi : u.ownBlock = some i) : ¬ WkF b sv vv mb (upd rd x none) i := by
  obtain ⟨h1, h2, h3, h4, _⟩ := h.list_ne hu i hi
  rintro (e | e | e | e | ⟨y, v, hy, hk⟩)
  · exact h1 e
  · exact h2 e
  · exact h3 e
  · exact h4 e
  · by_cases e : y = x
    · subst e
      rw [upd_same] at hy
      cases hy
    · rw [upd_other _ _ e] at hy
      exact e (h.apart y x v u i hy hu hk hi)

section
variable {w wr : World} {F G : Nat → Prop} {b n p place k N no : Nat} {tv u : Value} {ts : List Tr} {z : Nat → Int} {s1 : Wk} {who : List Nat} {t : Tr}
theorem WakI.next {u2 : World} {G2 : Nat → Prop} (h : WakI w F b tv ts n z p place s1 N who u k wr G) (hN : N + k + 1 ≤ 100000000000) (hw : wakes ts n z p place (who.take (k + 1)) s1 = wake1 ts n z p place no (wakes ts n z p place (who.take k) s1)) (ht : ts[no]? = some t) (hc : t.en < 0 ∨ (place : Int) < t.en)
    (h1 : WkM u2 G2 b tv n z p (base.ask n z p t.ac no (wakes ts n z p place (who.take k) s1)) (N + k + 1)) (h2 : Step G G2 wr u2) : WakI w F b tv ts n z p place s1 N who u (k + 1) u2 G2 := by
  have e : wakes ts n z p place (who.take (k + 1)) s1 = base.ask n z p t.ac no (wakes ts n z p place (who.take k) s1) := by
    rw [hw]
    unfold wake1
    rw [ht]
    dsimp only
    rw [if_pos hc]
  refine ⟨by rw [e]; exact h1, by rw [e]; exact h.ok.ask hN _ _ _, ownsRow_keep h.row fun i e => h2.only.block i (h.row.lt i e).2 (h.sep i e), fun i e hi => ?_, h.step.trans h2⟩
  rcases h2.foot i hi with h3 | h3
  · exact h.sep i e h3
  · have := (h.row.lt i e).2
    omega
theorem WakI.skip (h : WakI w F b tv ts n z p place s1 N who u k wr G) (hN : N + k + 1 ≤ 100000000000) (hw : wakes ts n z p place (who.take (k + 1)) s1 = wake1 ts n z p place no (wakes ts n z p place (who.take k) s1)) (ht : ts[no]? = some t) (hc : ¬ (t.en < 0 ∨ (place : Int) < t.en)) : WakI w F b tv ts n z p place s1 N who u (k + 1) wr G := by
  have e : wakes ts n z p place (who.take (k + 1)) s1 = wakes ts n z p place (who.take k) s1 := by
    rw [hw]
    unfold wake1
    rw [ht]
    dsimp only
    rw [if_neg hc]
  exact ⟨by rw [e]; exact h.wk.more (by omega), by rw [e]; exact h.ok.more (by omega) (by omega), h.row, h.sep, h.step⟩
end

set_option maxHeartbeats 2000000 in
theorem wake_any (w0 w : World) (F : Nat → Prop) (b : Nat) (ta : Option Addr) (tc : Nat) (ys : List (Tr × Value)) (n : Nat) (z : Nat → Int) (p place : Nat) (s : Wk) (N : Nat) (x1 x2 : Int) (hT : TsAt w0 ta ys) (g0 : w0.grownBy w none) (hFB : ∀ k, F k → w0.heap.size ≤ k) (h : WkM w F b (.slice ta ys.length tc) n z p s N) (ok : WkOk (ys.map Prod.fst) n p s N) (hN : N + 1000 ≤ 100000000000)
    (hk1 : (Lit.int .i64 x1).wf = true) (hk2 : (Lit.int .i64 x2).wf = true) (hwho : (s.M (x1, x2)).length ≤ 1000) (hmem : ∀ no ∈ s.M (x1, x2), no < ys.length) :
    Calls Try.prog 72 #[.pointer (some ⟨b, 0, none⟩), .agg #[.int .i64 x1, .int .i64 x2], .int .i64 place] w fun r w' => r = .returned (.tuple #[]) ∧ ∃ F', Hid (WkM w' F' b (.slice ta ys.length tc) n z p (base.wake (ys.map Prod.fst) n z p place (x1, x2) s) (N + 1000)) ∧ Hid (WkOk (ys.map Prod.fst) n p (base.wake (ys.map Prod.fst) n z p place (x1, x2) s) (N + 1000)) ∧ Hid (Step F F' w w') := by
  obtain ⟨sv, vv, mb, rd, h0, hF⟩ := h
  obtain ⟨kl, hkl⟩ := keyWant (x := (x1, x2)) hk1 hk2
  have KL := Lib.hid hkl
  have HT := Lib.hid hT
  have HFB := Lib.hid hFB
  have HF := Lib.hid hF
  have G0 := Lib.hid g0
  have OK := Lib.hid ok
  have HMEM := Lib.hid hmem
  have GA := Lib.hid (World.grownBy_alloc w (.cells #[.int .i64 x1, .int .i64 x2] 144) none)
  have EW := Lib.hid (Blk.made w 144 #[.int .i64 x1, .int .i64 x2])
  have HV := Lib.hid (h0.grown GA.out)
  clear hT hFB hF g0 ok hkl hmem h0
  go_enter Try.func72, Try.ntmps72
  go_upto_region 1 with fail
  generalize w.alloc _ = v1 at *
  generalize hq : w.heap.size = q at *
  clear hq
  obtain ⟨lv, hlv, hlrow⟩ : ∃ lv, (rd (x1, x2)).getD (.slice none 0 0) = lv ∧ v1.ownsRow 0 3 1 lv (s.M (x1, x2)).length ((s.M (x1, x2)).map natV) := by
    cases e : rd (x1, x2) with
    | none => exact ⟨_, rfl, by rw [HV.out.nope _ e]; exact World.ownsRow_nil _ _ _ _⟩
    | some u => exact ⟨u, rfl, HV.out.lst _ u e⟩
  have hsep : ∀ k, lv.ownBlock = some k → ∃ u, rd (x1, x2) = some u ∧ u.ownBlock = some k := fun k e => by
    cases hrd : rd (x1, x2) with
    | none => rw [hrd] at hlv; rw [← hlv] at e; cases e
    | some u => rw [hrd] at hlv; exact ⟨u, rfl, by rw [show u = lv from hlv]; exact e⟩
  obtain ⟨la, lc, rfl⟩ := owns_slice hlrow
  have RW := Lib.hid hlrow
  have SEP := Lib.hid hsep
  have c4 : v1.cell? ⟨b, 4, none⟩ = some (.map (some mb)) := HV.out.blk.cell 4
  have w0' : v1.cell? ⟨q, 0, none⟩ = some (.int .i64 x1) := EW.out.cell 0
  have w1' : v1.cell? ⟨q, 1, none⟩ = some (.int .i64 x2) := EW.out.cell 1
  have bl1 := HV.out.blk.lt
  have ql := EW.out.lt
  have hget : ∀ m, (Instr.lookup 64 (.map (some mb)) (.agg #[.int .i64 x1, .int .i64 x2]) false).run Try.prog (v1.drewN m) = .ok (.slice la (s.M (x1, x2)).length lc) (v1.drewN m) := fun m => by
    have := (show MapG Try.prog 144 two (v1.drewN m) mb N rd from HV.out.map).get kWant Try.underlying64 (zeroList _) KL.out
    rwa [hlv] at this
  have hget1 : (Instr.lookup 64 (.map (some mb)) (.agg #[.int .i64 x1, .int .i64 x2]) false).run Try.prog v1.drew = .ok (.slice la (s.M (x1, x2)).length lc) v1.drew := hget 1
  clear hget hlv hsep hlrow
  go_wp2_with fail
  go_region
  have HV2 := Lib.hid (HV.out.grown (gb_drew (gb_refl v1 none)))
  have EW2 := Lib.hid (EW.out.keep (w' := v1.drew) rfl)
  have RW2 := Lib.hid (ownsRow_keep (w' := v1.drew) RW.out (fun _ _ => rfl))
  have GV2 := Lib.hid (gb_drew GA.out)
  clear hget1 c4 w0' w1' EW HV RW GA bl1 ql
  generalize v1.drew = v2 at *
  have c4 : v2.cell? ⟨b, 4, none⟩ = some (.map (some mb)) := HV2.out.blk.cell 4
  have w0' : v2.cell? ⟨q, 0, none⟩ = some (.int .i64 x1) := EW2.out.cell 0
  have w1' : v2.cell? ⟨q, 1, none⟩ = some (.int .i64 x2) := EW2.out.cell 1
  have bl1 := HV2.out.blk.lt
  have ql := EW2.out.lt
  obtain ⟨u3, hdel, hm3, hg3⟩ := (show MapG Try.prog 144 two v2.drew mb N rd from HV2.out.map).del kWant two_inj Try.underlying64 KL.out 0
  have hdel' : (Builtin.delete_ #[64, 144] 0 #[.map (some mb), .agg #[.int .i64 x1, .int .i64 x2]]).run Try.prog v2.drew = .ok (.tuple #[]) u3 := hdel
  have ST := Lib.hid ((HV2.out.grown (gb_drew (gb_refl v2 none))).strike (x1, x2) hm3 hg3)
  have RW3 := Lib.hid (ownsRow_keep (w' := u3) RW2.out (fun i e => by
    obtain ⟨u, h1, h2⟩ := SEP.out i e
    have h3 := HV2.out.list_ne h1 i h2
    exact hg3.block i h3.2.2.2.2 (by simp; exact h3.2.2.2.1)))
  have ON := Lib.hid ((Only.none (S := WkF b sv vv mb rd) (gb_drew GV2.out)).trans (Only.of hg3 (fun k e _ => by cases e; exact .inr (.inr (.inr (.inl rfl))))))
  have SEP2 := Lib.hid (show ∀ i, (Value.slice la (s.M (x1, x2)).length lc).ownBlock = some i → ¬ WkF b sv vv mb (upd rd (x1, x2) none) i from fun i e => by
    obtain ⟨u, h1, h2⟩ := SEP.out i e
    exact HV2.out.strike_sep h1 h2)
  have z4 : u3.cell? ⟨b, 4, none⟩ = some (.map (some mb)) := ST.out.blk.cell 4
  clear hdel hm3 hg3
  go_wp2_with fail
  go_region
  obtain ⟨who, hwd⟩ : ∃ who, who = s.M (x1, x2) := ⟨_, rfl⟩
  have HWD := Lib.hid hwd
  rw [← hwd] at hwho RW3 SEP2 HMEM
  rw [← hwd]
  obtain ⟨s1, hs1⟩ : ∃ s1 : Wk, s1 = ⟨s.seen, fun y => if y = (x1, x2) then [] else s.M y⟩ := ⟨_, rfl⟩
  have HS1 := Lib.hid hs1
  have OK1 := Lib.hid (show WkOk (ys.map Prod.fst) n p s1 N from ⟨by rw [hs1]; exact OK.out.seen, OK.out.len, OK.out.n, OK.out.p, fun x => by
    rw [hs1]
    dsimp only
    split
    · exact Nat.zero_le _
    · exact OK.out.lists x, OK.out.N, OK.out.acs⟩)
  have I0 : Hid (WakI w F b (.slice ta ys.length tc) (ys.map Prod.fst) n z p place s1 N who (.slice la who.length lc) 0 u3 (WkF b sv vv mb (upd rd (x1, x2) none))) := Lib.hid
    ⟨⟨sv, vv, mb, _, by have := ST.out; rw [← hs1] at this; exact this, fun _ h => h⟩, OK1.out, RW3.out, SEP2.out, ⟨ON.out.mono fun k _ hk => HF.out k hk, fun k hk => .inl (HF.out k (strike_sub k hk))⟩⟩
  clear hwd hs1 ST RW3 ON SEP2 z4 HV2 EW2 RW2 GV2 c4 w0' w1' bl1 ql hdel' SEP
  go_wp2_with fail
  go_loopw [23] (fun iv wr => ∃ (k : Nat) (G : Nat → Prop), k ≤ who.length ∧ iv = .int .i64 k ∧ Hid (WakI w F b (.slice ta ys.length tc) (ys.map Prod.fst) n z p place s1 N who (.slice la who.length lc) k wr G)) (fun iv _ => (who.length - intOf iv).toNat)
  case atStart => exact ⟨0, _, by omega, rfl, I0⟩
  case round =>
    clear I0
    obtain ⟨k, G, hk, rfl, I⟩ := hrel
    by_cases hlt : k < who.length
    · have hlt' : (k : Int) < (who.length : Int) := by omega
      have hk6 : (k : Int) < 1000000 := by omega
      rcases I.out.row.2 with ⟨h1, h2⟩ | ⟨wb, wcap, wcur, hla, _, hwb, _⟩
      · omega
      cases hla
      have wl := lt_of_block hwb
      clear hwb
      have hget := List.getElem?_eq_getElem hlt
      have HWT := Lib.hid (wakes_take (ys.map Prod.fst) n z p place hget s1)
      have hno := HMEM.out who[k] (List.getElem_mem hlt)
      have crow := I.out.row.cellAt k (show k < who.length * 1 by omega)
      rw [List.getElem?_map, hget] at crow
      clear hget
      generalize who[k] = no at *
      have hno' : (no : Int) < (ys.length : Int) := by omega
      have hgy := List.getElem?_eq_getElem hno
      have GW := Lib.hid (gb_only G0.out I.out.step.only HFB.out)
      have TW := Lib.hid (HT.out.grown GW.out)
      obtain ⟨tb, off, va, vc, rfl, htb, hv, hl, c0, c1, c2, c3, c4, c5, c6, c7, c8⟩ := TW.out.at hgy
      have HGY := Lib.hid hgy
      have HTS := Lib.hid (show (ys.map Prod.fst)[no]? = some ys[no].1 by rw [List.getElem?_map, hgy]; rfl)
      clear hgy hl hv c0 c1 c2 c3 c4 c6 c7 c8
      generalize ys[no] = y at *
      obtain ⟨t, yv⟩ := y
      dsimp only at c5 HTS
      obtain ⟨wsv, wvv, wmb, wrd, hwk, _⟩ := I.out.wk
      have b0 : wr.cell? ⟨b, 0, none⟩ = some (.slice (some ⟨tb, off, none⟩) ys.length tc) := hwk.blk.cell 0
      have bl := hwk.blk.lt
      clear hwk
      have crow' : wr.cell? ⟨wb, k, none⟩ = some (.int .i64 no) := crow
      clear crow
      have ASK := Lib.hid (ask_any wr G b (some ⟨tb, off, none⟩) tc ys n z p (wakes (ys.map Prod.fst) n z p place (who.take k) s1) (N + k) no t yv TW.out HGY.out I.out.wk I.out.ok)
      by_cases hc : t.en < 0
      · go_wp2_with (first | (go_at_call 70; refine ASK.out.mono ?_; rintro r u2 ⟨rfl, G2, h1, h2⟩) | go_in)
        go_roundw; (case rel => exact ⟨k + 1, G2, by omega, by go_num, I.out.next (by omega) HWT.out HTS.out (.inl hc) h1.out h2.out⟩); (case measure => simp [intOf]; omega)
      · by_cases hc2 : (place : Int) < t.en
        · go_wp2_with (first | (go_at_call 70; refine ASK.out.mono ?_; rintro r u2 ⟨rfl, G2, h1, h2⟩) | go_in)
          go_roundw; (case rel => exact ⟨k + 1, G2, by omega, by go_num, I.out.next (by omega) HWT.out HTS.out (.inr hc2) h1.out h2.out⟩); (case measure => simp [intOf]; omega)
        · go_wp2
          go_roundw
          case rel => exact ⟨k + 1, G, by omega, by go_num, I.out.skip (by omega) HWT.out HTS.out (by omega)⟩
          case measure => simp [intOf]; omega
    · obtain rfl : k = who.length := by omega
      have hend : who.take who.length = who := List.take_length
      have hb : base.wake (ys.map Prod.fst) n z p place (x1, x2) s = wakes (ys.map Prod.fst) n z p place who s1 := by
        unfold base.wake
        rw [← HWD.out, ← HS1.out]
      go_wp2
      (first | go_end0 | refine bodyPost_ret (results_none rfl _ _ _) rfl ?_)
      have h1 := I.out.wk
      have h2 := I.out.ok
      rw [hend] at h1 h2
      exact ⟨rfl, G, by rw [hb]; exact h1.more (by omega), by rw [hb]; exact h2.more (by omega) (by omega), I.out.step⟩
end Go.Proofs.Ytkidkhjpijjphaa.oq

/- Package opaque's walk: a try commits. -/
namespace Go.Proofs.Ytkidkhjpijjphaa.oq
open Go Go.RowKit Go.Proofs.Ytkidkhjpijjphaa.base Go.Proofs.Ytkidkhjpijjphaa.hs Go.Proofs.Ytkidkhjpijjphaa.lg Go.Proofs.Ytkidkhjpijjphaa.md Go.Maps
set_option linter.unusedVariables false
set_option maxRecDepth 100000
set_option linter.unusedSimpArgs false

theorem wakeAll_snoc (ts : List Tr) (n : Nat) (z : Nat → Int) (p place : Nat) (o : Nat) : ∀ (l : List Nat) (s : Wk), wakeAll ts n z p place (l ++ [o]) s = base.wake ts n z p place ((o : Int), z o) (wakeAll ts n z p place l s)
  | [], _ => rfl
  | _ :: l, s => wakeAll_snoc ts n z p place o l _
theorem wakeAll_take (ts : List Tr) (n : Nat) (z : Nat → Int) (p place : Nat) {l : List Nat} {k o : Nat} (h : l[k]? = some o) (s : Wk) : wakeAll ts n z p place (l.take (k + 1)) s = base.wake ts n z p place ((o : Int), z o) (wakeAll ts n z p place (l.take k) s) := by
  rw [List.take_add_one, h]
  exact wakeAll_snoc ts n z p place o _ s
theorem writes_lt (n : Nat) : ∀ (l : List Acc) (o : Nat), o ∈ writes n l → o < n
  | [], o, h => by simp [writes] at h
  | a :: l, o, h => by
    rw [writes] at h
    split at h
    · rcases List.mem_cons.1 h with rfl | h
      · omega
      · exact writes_lt n l o h
    · exact writes_lt n l o h
theorem wf_small {o : Nat} (h : (o : Int) ≤ 1000000) : (Lit.int .i64 (o : Int)).wf = true := by
  have h0 : IntKind.i64.min = -9223372036854775808 := by decide
  simp [Lit.wf, h0]
  omega

/-- What stands while the values that are new are gone through. -/
structure ComI (w : World) (F : Nat → Prop) (b : Nat) (tv : Value) (ts : List Tr) (n : Nat) (z : Nat → Int) (p place : Nat) (s0 : Wk) (N : Nat) (l : List Nat) (u : Value) (k : Nat) (wr : World) (G : Nat → Prop) : Prop where
  wk : WkM wr G b tv n z p (wakeAll ts n z p place (l.take k) s0) (N + 1000 * k)
  ok : WkOk ts n p (wakeAll ts n z p place (l.take k) s0) (N + 1000 * k)
  row : wr.ownsRow 0 3 1 u l.length (l.map natV)
  sep : ∀ i, u.ownBlock = some i → ¬ G i
  step : Step F G w wr
theorem ComI.next {w wr u2 : World} {F G G2 : Nat → Prop} {b n p place k N o : Nat} {tv u : Value} {ts : List Tr} {z : Nat → Int} {s0 : Wk} {l : List Nat} (h : ComI w F b tv ts n z p place s0 N l u k wr G) (hw : wakeAll ts n z p place (l.take (k + 1)) s0 = base.wake ts n z p place ((o : Int), z o) (wakeAll ts n z p place (l.take k) s0))
    (h1 : WkM u2 G2 b tv n z p (base.wake ts n z p place ((o : Int), z o) (wakeAll ts n z p place (l.take k) s0)) (N + 1000 * k + 1000)) (h3 : WkOk ts n p (base.wake ts n z p place ((o : Int), z o) (wakeAll ts n z p place (l.take k) s0)) (N + 1000 * k + 1000)) (h2 : Step G G2 wr u2) : ComI w F b tv ts n z p place s0 N l u (k + 1) u2 G2 := by
  refine ⟨by rw [hw]; exact h1, by rw [hw]; exact h3, ownsRow_keep h.row fun i e => h2.only.block i (h.row.lt i e).2 (h.sep i e), fun i e hi => ?_, h.step.trans h2⟩
  rcases h2.foot i hi with h3 | h3
  · exact h.sep i e h3
  · have := (h.row.lt i e).2
    omega

set_option maxHeartbeats 2000000 in
theorem commits_any (w0 w : World) (F : Nat → Prop) (b : Nat) (ta : Option Addr) (tc : Nat) (ys : List (Tr × Value)) (n : Nat) (z : Nat → Int) (p place : Nat) (s s0 : Wk) (N : Nat) (no : Nat) (t : Tr) (yv : Value) (hT : TsAt w0 ta ys) (g0 : w0.grownBy w none) (hFB : ∀ k, F k → w0.heap.size ≤ k) (h : WkM w F b (.slice ta ys.length tc) n z p s N) (ok : WkOk (ys.map Prod.fst) n p s N) (hN : N + 1000000 ≤ 100000000000) (hp : p < 1000000) (hy : ys[no]? = some (t, yv))
    (hs0 : s0 = if fits n z t.ac = true then ⟨s.seen.set no p, s.M⟩ else s) (hzw : ∀ i, i < n → (Lit.int .i64 (app z t.ac i)).wf = true)
    (hW : ∀ (k o : Nat), (writes n t.ac)[k]? = some o → ((wakeAll (ys.map Prod.fst) n (app z t.ac) (p + 1) place ((writes n t.ac).take k) s0).M ((o : Int), app z t.ac o)).length ≤ 1000 ∧ ∀ no ∈ (wakeAll (ys.map Prod.fst) n (app z t.ac) (p + 1) place ((writes n t.ac).take k) s0).M ((o : Int), app z t.ac o), no < ys.length) :
    Calls Try.prog 59 #[.pointer (some ⟨b, 0, none⟩), .int .i64 no, .int .i64 place] w fun r w' => r = .returned (.tuple #[]) ∧ ∃ F', Hid (WkM w' F' b (.slice ta ys.length tc) n (app z t.ac) (p + 1 : Nat) (base.commit (ys.map Prod.fst) n z p place t no s) (N + 1000000)) ∧ Hid (WkOk (ys.map Prod.fst) n (p + 1) (base.commit (ys.map Prod.fst) n z p place t no s) (N + 1000000)) ∧ Hid (Step F F' w w') := by
  obtain ⟨sv, vv, mb, rd, h0, hF⟩ := h
  have hno : no < ys.length := (List.getElem?_eq_some_iff.1 hy).1
  have hac := ok.acs t (List.mem_map_of_mem (f := Prod.fst) (List.mem_of_getElem? hy))
  obtain ⟨tb0, off0, va, vc, hta, _, hv, hl0, _⟩ := hT.at hy
  dsimp only at hv hl0
  subst hv
  obtain ⟨tb, off, va', vc', e1, htb, hv', _, c0, c1, c2, c3, c4, c5, c6, c7, c8⟩ := (hT.grown g0).at hy
  dsimp only at hv' c0 c1 c2 c3 c4 c5 c6 c7 c8
  injection hv' with hv1 hv2 hv3
  subst hv1 hv3
  subst e1
  obtain ⟨ua, uc, hvv⟩ := owns_slice h0.vals
  subst hvv
  have H := Lib.hid h0
  have HF := Lib.hid hF
  have HFB := Lib.hid (show ∀ k, WkF b sv (.slice ua n uc) mb rd k → w0.heap.size ≤ k from fun k hk => hFB k (hF k hk))
  have HFB2 := Lib.hid hFB
  have G0 := Lib.hid g0
  have HT := Lib.hid hT
  have HL0 := Lib.hid hl0
  have HL := Lib.hid (hl0.grown g0)
  have HAL := Lib.hid hac.1
  have HN := Lib.hid ok.n
  have HZW := Lib.hid hzw
  have HW := Lib.hid hW
  have HAC := Lib.hid hac.2
  have HNZ := Lib.hid (show IsNums .i64 w ua n z from IsNums.of_own h0.vals)
  have OK := Lib.hid ok
  have hlo := ok.len
  rw [List.length_map] at hlo
  have hn6 : (no : Int) ≤ 1000000 := by omega
  have hno' : (no : Int) < (ys.length : Int) := by omega
  have hp6 : (p : Int) < 1000000 := by omega
  have hacl : t.ac.length ≤ 1000000 := by have := hac.1; omega
  have b0 : w.cell? ⟨b, 0, none⟩ = some (.slice (some ⟨tb, off, none⟩) ys.length tc) := h0.blk.cell 0
  have bl := h0.blk.lt
  have GA := Lib.hid (World.grownBy_alloc w (.cells #[.int .i64 t.th, .int .i64 t.tx, .int .i64 t.at_, .int .i64 t.st, .int .i64 t.b, .int .i64 t.en, .int .i64 t.re, .bool t.co, .slice va t.ac.length vc] 41) none)
  have EB := Lib.hid (Blk.made w 41 #[.int .i64 t.th, .int .i64 t.tx, .int .i64 t.at_, .int .i64 t.st, .int .i64 t.b, .int .i64 t.en, .int .i64 t.re, .bool t.co, .slice va t.ac.length vc])
  have HS0 : Hid (base.commit (ys.map Prod.fst) n z p place t no s = wakeAll (ys.map Prod.fst) n (app z t.ac) (p + 1) place (writes n t.ac) s0) := Lib.hid (by rw [hs0]; rfl)
  have HSS := Lib.hid hs0
  have hsl : s.seen.length = ys.length := by rw [ok.seen, List.length_map]
  have OKS : Hid (WkOk (ys.map Prod.fst) n (p + 1) s0 N) := Lib.hid (by
    rw [hs0]
    split
    · exact ⟨by simpa using ok.seen, ok.len, ok.n, by omega, ok.lists, ok.N, ok.acs⟩
    · exact ⟨ok.seen, ok.len, ok.n, by omega, ok.lists, ok.N, ok.acs⟩)
  have HSL := Lib.hid hsl
  clear hT hy h0 hF hl0 hac ok g0 hFB hzw hW hs0 hta hsl hlo
  go_enter Try.func59, Try.ntmps59
  go_upto_region 1 with fail
  generalize w.alloc _ = v at *; generalize hq : w.heap.size = q at *; have HQ := Lib.hid hq; clear hq; have d2 : v.cell? ⟨b, 2, none⟩ = some (.slice ua n uc) := GA.out.cell (H.out.blk.cell 2) (by simp); have e0 := EB.out.cell 0; have e1 := EB.out.cell 1; have e2 := EB.out.cell 2; have e3 := EB.out.cell 3; have e4 := EB.out.cell 4; have e5 := EB.out.cell 5; have e6 := EB.out.cell 6; have e7 := EB.out.cell 7; have e8 := EB.out.cell 8; have bv := World.block_lt_of_cell? _ _ d2; have qv := EB.out.lt; have K0 : Hid (v.grownBy v.drew none) := Lib.hid (gb_drew (gb_refl v none))
  go_wp2_with fail
  by_cases hf : fits n z t.ac = true
  · have FT := Lib.hid hf
    rw [if_pos hf] at HSS
    clear hf
    go_region_held3 (fun w' => Hid (v.grownBy w' none) ∧ w'.cell? ⟨b, 2, none⟩ = some (.slice ua n uc) ∧ w'.cell? ⟨q, 0, none⟩ = some (.int .i64 t.th) ∧ w'.cell? ⟨q, 1, none⟩ = some (.int .i64 t.tx) ∧ w'.cell? ⟨q, 2, none⟩ = some (.int .i64 t.at_) ∧ w'.cell? ⟨q, 3, none⟩ = some (.int .i64 t.st) ∧ w'.cell? ⟨q, 4, none⟩ = some (.int .i64 t.b) ∧ w'.cell? ⟨q, 5, none⟩ = some (.int .i64 t.en) ∧ w'.cell? ⟨q, 6, none⟩ = some (.int .i64 t.re) ∧ w'.cell? ⟨q, 7, none⟩ = some (.bool t.co) ∧ w'.cell? ⟨q, 8, none⟩ = some (.slice va t.ac.length vc)) (go_keep) (first | (go_at_call 16; refine (fits_any ua n uc z t va vc _ (HNZ.out.grown (gb_trans GA.out (by refine Hid.out ?_; assumption))) (HL.out.grown (gb_trans GA.out (by refine Hid.out ?_; assumption))) HAC.out hacl).mono ?_; rw [FT.out]; rintro r u ⟨rfl, gu⟩; have K : Hid (v.grownBy u none) := Lib.hid (gb_trans (by refine Hid.out ?_; assumption) gu.out); have x2 := K.out.cell d2 (by simp); have y0 := K.out.cell e0 (by simp); have y1 := K.out.cell e1 (by simp); have y2 := K.out.cell e2 (by simp); have y3 := K.out.cell e3 (by simp); have y4 := K.out.cell e4 (by simp); have y5 := K.out.cell e5 (by simp); have y6 := K.out.cell e6 (by simp); have y7 := K.out.cell e7 (by simp); have y8 := K.out.cell e8 (by simp)))
    have HU := Lib.hid (H.out.grown (gb_trans GA.out K.out))
    have EBU := Lib.hid (EB.out.grown K.out (by simp))
    have GU := Lib.hid (gb_trans GA.out K.out)
    clear d2 e0 e1 e2 e3 e4 e5 e6 e7 e8 x2 y0 y1 y2 y3 y4 y5 y6 y7 y8 K0
    obtain ⟨sa, sc, hsv⟩ := owns_slice HU.out.seen
    have hsl := HSL.out
    rcases HU.out.seen.2 with ⟨_, h1⟩ | ⟨g, gcap, gcur, hsg, _, hgb, _⟩
    · omega
    rw [hsg] at hsv
    cases hsv
    have hg : sv.ownBlock = some g := by rw [hsg]; rfl
    have HG := Lib.hid hg
    have hno2 : (no : Int) < (s.seen.length : Int) := by omega
    have k1 : u.cell? ⟨b, 1, none⟩ = some sv := HU.out.blk.cell 1
    rw [hsg] at k1
    have k3 : u.cell? ⟨b, 3, none⟩ = some (.int .i64 p) := HU.out.blk.cell 3
    obtain ⟨xq, kg⟩ : ∃ xq, u.cell? ⟨g, no, none⟩ = some (.int .i64 xq) := by
      have h1 := HU.out.seen
      rw [hsg] at h1
      have h2 := h1.cellAt no (show no < s.seen.length * 1 by omega)
      rw [List.getElem?_map, List.getElem?_eq_getElem (by omega)] at h2
      exact ⟨_, h2⟩
    have kf : u.frozen? ⟨g, no, none⟩ = false := by simp [World.frozen?, hgb]
    have kl0 := HU.out.blk.lt
    have gl := lt_of_block hgb
    have hqg : q ≠ g := fun e => by
      obtain ⟨cs, hc⟩ := ownsRow_type HU.out.seen hg
      exact absurd (not_cells_of hc (e ▸ EBU.out)) (by decide)
    clear hgb hg hsl
    go_wp2_with fail
    go_region
    have HU2 : Hid (WkP (u.setCell ⟨g, no, none⟩ (.int .i64 p)).drew b (.slice (some ⟨tb, off, none⟩) ys.length tc) n z p s0 N sv (.slice ua n uc) mb rd) := Lib.hid (by
      rw [HSS.out]
      exact (HU.out.sees HG.out (no := no) (by have := HSL.out; omega) (p : Int)).grown (gb_drew (gb_refl _ none)))
    have EB2 := Lib.hid (EBU.out.keep (w' := (u.setCell ⟨g, no, none⟩ (.int .i64 p)).drew) (Below.heap_setCell u _ _ _ hqg))
    have O2 := Lib.hid (((Only.none (S := WkF b sv (.slice ua n uc) mb rd) GU.out).trans (Only.of (gb_setB (gb_refl u (some g)) (i := no) (.int .i64 p)) (fun i e _ => by cases e; exact .inr (.inl HG.out)))).trans (Only.none (gb_drew (gb_refl _ none))))
    clear k1 k3 kg kf kl0 gl hqg HU EBU GU hno2 hsg
    generalize (u.setCell ⟨g, no, none⟩ (.int .i64 p)).drew = u2 at *
    have hbq : q ≠ b := fun e => absurd (not_cells_of (e ▸ EB2.out) HU2.out.blk) (by decide)
    have k3 : u2.cell? ⟨b, 3, none⟩ = some (.int .i64 p) := HU2.out.blk.cell 3
    have f3 := HU2.out.blk.free 3
    have kl := HU2.out.blk.lt
    have H3 := Lib.hid (HU2.out.counts ((p : Int) + 1))
    have EB3 := Lib.hid (EB2.out.keep (w' := u2.setCell ⟨b, 3, none⟩ (.int .i64 ((p : Int) + 1))) (Below.heap_setCell _ _ _ _ hbq))
    have O3 := Lib.hid (O2.out.trans (Only.of (gb_setB (gb_refl u2 (some b)) (i := 3) (.int .i64 ((p : Int) + 1))) (fun i e _ => by cases e; exact .inl rfl)))
    go_upto_region 4 with fail
    clear k3 f3 HU2 EB2 O2
    generalize u2.setCell ⟨b, 3, none⟩ (.int .i64 ((p : Int) + 1)) = u3 at *
    have e0 := EB3.out.cell 0
    have e1 := EB3.out.cell 1
    have e2 := EB3.out.cell 2
    have e3 := EB3.out.cell 3
    have e4 := EB3.out.cell 4
    have e5 := EB3.out.cell 5
    have e6 := EB3.out.cell 6
    have e7 := EB3.out.cell 7
    have e8 := EB3.out.cell 8
    have CH := Lib.hid (change_any w0 u3 (WkF b sv (.slice ua n uc) mb rd) b (.slice (some ⟨tb, off, none⟩) ys.length tc) n z ((p : Int) + 1) s0 N t va vc ⟨sv, _, mb, rd, H3.out, fun _ h => h⟩ HL0.out (gb_only G0.out O3.out HFB.out) HFB.out HAL.out HN.out)
    go_wp2_with (first | (go_at_call 71; refine CH.out.mono ?_; rintro r u4 ⟨ov, F4, rfl, h4, st4, row4, sep4⟩; obtain ⟨oa, oc, hov⟩ := owns_slice row4.out; subst hov; clear e0 e1 e2 e3 e4 e5 e6 e7 e8) | go_in)
    have OK0 : Hid (WkOk (ys.map Prod.fst) n (p + 1) s0 N) := Lib.hid OKS.out
    have I0 : Hid (ComI w F b (.slice (some ⟨tb, off, none⟩) ys.length tc) (ys.map Prod.fst) n (app z t.ac) (p + 1) place s0 N (writes n t.ac) (.slice oa (writes n t.ac).length oc) 0 u4 F4) := Lib.hid
      ⟨by have := h4.out; exact this, OK0.out, row4.out, fun i e => (sep4.out i e).1, Step.trans ⟨O3.out.mono fun k _ hk => HF.out k hk, fun k hk => .inl (HF.out k hk)⟩ st4.out⟩
    have hwl := writes_len n t.ac
    have hal := HAL.out
    clear h4 st4 row4 sep4 CH H3 EB3 O3 kl hbq OKS OK0
    generalize hwr : writes n t.ac = l at *
    have HWR := Lib.hid hwr
    clear hwr
    go_loopw [43] (fun iv wr => ∃ (k : Nat) (G : Nat → Prop), k ≤ l.length ∧ iv = .int .i64 k ∧ Hid (ComI w F b (.slice (some ⟨tb, off, none⟩) ys.length tc) (ys.map Prod.fst) n (app z t.ac) (p + 1) place s0 N l (.slice oa l.length oc) k wr G)) (fun iv _ => (l.length - intOf iv).toNat)
    case atStart => exact ⟨0, _, by omega, rfl, I0⟩
    case round =>
      clear I0
      obtain ⟨k, G, hk, rfl, I⟩ := hrel
      by_cases hlt : k < l.length
      · have hlt' : (k : Int) < (l.length : Int) := by omega
        have hk6 : (k : Int) < 1000000 := by omega
        rcases I.out.row.2 with ⟨h1, h2⟩ | ⟨wb, wcap, wcur, hla, _, hwb, _⟩
        · omega
        cases hla
        have wl := lt_of_block hwb
        clear hwb
        have hget := List.getElem?_eq_getElem hlt
        have hwho := HW.out k l[k] hget
        have ho := writes_lt n t.ac l[k] (by rw [HWR.out]; exact List.getElem_mem hlt)
        have HWT := Lib.hid (wakeAll_take (ys.map Prod.fst) n (app z t.ac) (p + 1) place hget s0)
        have crow := I.out.row.cellAt k (show k < l.length * 1 by omega)
        rw [List.getElem?_map, hget] at crow
        clear hget
        generalize l[k] = o at *
        have crow' : wr.cell? ⟨wb, k, none⟩ = some (.int .i64 o) := crow
        clear crow
        have ho' : (o : Int) < (n : Int) := by omega
        have ho6 : (o : Int) ≤ 1000000 := by have := HN.out; omega
        obtain ⟨wsv, wvv, wmb, wrd, hwk, hwF⟩ := I.out.wk
        obtain ⟨xa, xc, hxv⟩ := owns_slice hwk.vals
        subst hxv
        rcases hwk.vals.2 with ⟨h1, h2⟩ | ⟨xb, xcap, xcur, hxa, _, hxb, _⟩
        · omega
        cases hxa
        have xl := lt_of_block hxb
        clear hxb
        have d2 : wr.cell? ⟨b, 2, none⟩ = some (.slice (some ⟨xb, 0, none⟩) n xc) := hwk.blk.cell 2
        have dz : wr.cell? ⟨xb, o, none⟩ = some (.int .i64 (app z t.ac o)) := (hwk.vals.cellAt o (show o < n * 1 by omega)).trans (vals_get _ _ _ ho)
        have bl := hwk.blk.lt
        clear hwk hwF
        have GW := Lib.hid (gb_only G0.out I.out.step.only HFB2.out)
        have hFG : ∀ i, G i → w0.heap.size ≤ i := fun i hi => by
          rcases I.out.step.foot i hi with h | h
          · exact HFB2.out i h
          · have := G0.out.size
            omega
        have WKE := Lib.hid (wake_any w0 wr G b (some ⟨tb, off, none⟩) tc ys n (app z t.ac) (p + 1) place (wakeAll (ys.map Prod.fst) n (app z t.ac) (p + 1) place (l.take k) s0) (N + 1000 * k) (o : Int) (app z t.ac o) HT.out GW.out hFG I.out.wk I.out.ok (by omega) (wf_small ho6) (HZW.out o ho) hwho.1 hwho.2)
        clear hwho hFG
        go_wp2_with (first | (go_at_call 72; refine WKE.out.mono ?_; rintro r u5 ⟨rfl, G5, h5, ok5, st5⟩) | go_in)
        go_roundw
        case rel => exact ⟨k + 1, G5, by omega, by go_num, I.out.next HWT.out h5.out ok5.out st5.out⟩
        case measure => simp [intOf]; omega
      · obtain rfl : k = l.length := by omega
        have hend : l.take l.length = l := List.take_length
        go_wp2
        (first | go_end0 | refine bodyPost_ret (results_none rfl _ _ _) rfl ?_)
        have h1 := I.out.wk
        have h2 := I.out.ok
        rw [hend] at h1 h2
        refine ⟨rfl, G, ?_, ?_, I.out.step⟩
        · have := h1.more (N' := N + 1000000) (by omega)
          rw [HS0.out]
          exact this
        · have := h2.more (M := N + 1000000) (by omega) (by omega)
          rw [HS0.out]
          exact this
  · have FT := Lib.hid (show fits n z t.ac = false by simpa using hf)
    rw [if_neg hf] at HSS
    clear hf
    go_region_held3 (fun w' => Hid (v.grownBy w' none) ∧ w'.cell? ⟨b, 2, none⟩ = some (.slice ua n uc) ∧ w'.cell? ⟨q, 0, none⟩ = some (.int .i64 t.th) ∧ w'.cell? ⟨q, 1, none⟩ = some (.int .i64 t.tx) ∧ w'.cell? ⟨q, 2, none⟩ = some (.int .i64 t.at_) ∧ w'.cell? ⟨q, 3, none⟩ = some (.int .i64 t.st) ∧ w'.cell? ⟨q, 4, none⟩ = some (.int .i64 t.b) ∧ w'.cell? ⟨q, 5, none⟩ = some (.int .i64 t.en) ∧ w'.cell? ⟨q, 6, none⟩ = some (.int .i64 t.re) ∧ w'.cell? ⟨q, 7, none⟩ = some (.bool t.co) ∧ w'.cell? ⟨q, 8, none⟩ = some (.slice va t.ac.length vc)) (go_keep) (first | (go_at_call 16; refine (fits_any ua n uc z t va vc _ (HNZ.out.grown (gb_trans GA.out (by refine Hid.out ?_; assumption))) (HL.out.grown (gb_trans GA.out (by refine Hid.out ?_; assumption))) HAC.out hacl).mono ?_; rw [FT.out]; rintro r u ⟨rfl, gu⟩; have K : Hid (v.grownBy u none) := Lib.hid (gb_trans (by refine Hid.out ?_; assumption) gu.out); have x2 := K.out.cell d2 (by simp); have y0 := K.out.cell e0 (by simp); have y1 := K.out.cell e1 (by simp); have y2 := K.out.cell e2 (by simp); have y3 := K.out.cell e3 (by simp); have y4 := K.out.cell e4 (by simp); have y5 := K.out.cell e5 (by simp); have y6 := K.out.cell e6 (by simp); have y7 := K.out.cell e7 (by simp); have y8 := K.out.cell e8 (by simp)))
    have HU2 : Hid (WkP u b (.slice (some ⟨tb, off, none⟩) ys.length tc) n z p s0 N sv (.slice ua n uc) mb rd) := Lib.hid (by
      rw [HSS.out]
      exact H.out.grown (gb_trans GA.out K.out))
    have EB2 := Lib.hid (EB.out.grown K.out (by simp))
    have O2 := Lib.hid (Only.none (S := WkF b sv (.slice ua n uc) mb rd) (gb_trans GA.out K.out))
    clear d2 e0 e1 e2 e3 e4 e5 e6 e7 e8 x2 y0 y1 y2 y3 y4 y5 y6 y7 y8 K0 K gu
    generalize u = u2 at *
    have hbq : q ≠ b := fun e => absurd (not_cells_of (e ▸ EB2.out) HU2.out.blk) (by decide)
    have k3 : u2.cell? ⟨b, 3, none⟩ = some (.int .i64 p) := HU2.out.blk.cell 3
    have f3 := HU2.out.blk.free 3
    have kl := HU2.out.blk.lt
    have H3 := Lib.hid (HU2.out.counts ((p : Int) + 1))
    have EB3 := Lib.hid (EB2.out.keep (w' := u2.setCell ⟨b, 3, none⟩ (.int .i64 ((p : Int) + 1))) (Below.heap_setCell _ _ _ _ hbq))
    have O3 := Lib.hid (O2.out.trans (Only.of (gb_setB (gb_refl u2 (some b)) (i := 3) (.int .i64 ((p : Int) + 1))) (fun i e _ => by cases e; exact .inl rfl)))
    go_upto_region 4 with fail
    clear k3 f3 HU2 EB2 O2
    generalize u2.setCell ⟨b, 3, none⟩ (.int .i64 ((p : Int) + 1)) = u3 at *
    have e0 := EB3.out.cell 0
    have e1 := EB3.out.cell 1
    have e2 := EB3.out.cell 2
    have e3 := EB3.out.cell 3
    have e4 := EB3.out.cell 4
    have e5 := EB3.out.cell 5
    have e6 := EB3.out.cell 6
    have e7 := EB3.out.cell 7
    have e8 := EB3.out.cell 8
    have CH := Lib.hid (change_any w0 u3 (WkF b sv (.slice ua n uc) mb rd) b (.slice (some ⟨tb, off, none⟩) ys.length tc) n z ((p : Int) + 1) s0 N t va vc ⟨sv, _, mb, rd, H3.out, fun _ h => h⟩ HL0.out (gb_only G0.out O3.out HFB.out) HFB.out HAL.out HN.out)
    go_wp2_with (first | (go_at_call 71; refine CH.out.mono ?_; rintro r u4 ⟨ov, F4, rfl, h4, st4, row4, sep4⟩; obtain ⟨oa, oc, hov⟩ := owns_slice row4.out; subst hov; clear e0 e1 e2 e3 e4 e5 e6 e7 e8) | go_in)
    have OK0 : Hid (WkOk (ys.map Prod.fst) n (p + 1) s0 N) := Lib.hid OKS.out
    have I0 : Hid (ComI w F b (.slice (some ⟨tb, off, none⟩) ys.length tc) (ys.map Prod.fst) n (app z t.ac) (p + 1) place s0 N (writes n t.ac) (.slice oa (writes n t.ac).length oc) 0 u4 F4) := Lib.hid
      ⟨by have := h4.out; exact this, OK0.out, row4.out, fun i e => (sep4.out i e).1, Step.trans ⟨O3.out.mono fun k _ hk => HF.out k hk, fun k hk => .inl (HF.out k hk)⟩ st4.out⟩
    have hwl := writes_len n t.ac
    have hal := HAL.out
    clear h4 st4 row4 sep4 CH H3 EB3 O3 kl hbq OKS OK0
    generalize hwr : writes n t.ac = l at *
    have HWR := Lib.hid hwr
    clear hwr
    go_loopw [43] (fun iv wr => ∃ (k : Nat) (G : Nat → Prop), k ≤ l.length ∧ iv = .int .i64 k ∧ Hid (ComI w F b (.slice (some ⟨tb, off, none⟩) ys.length tc) (ys.map Prod.fst) n (app z t.ac) (p + 1) place s0 N l (.slice oa l.length oc) k wr G)) (fun iv _ => (l.length - intOf iv).toNat)
    case atStart => exact ⟨0, _, by omega, rfl, I0⟩
    case round =>
      clear I0
      obtain ⟨k, G, hk, rfl, I⟩ := hrel
      by_cases hlt : k < l.length
      · have hlt' : (k : Int) < (l.length : Int) := by omega
        have hk6 : (k : Int) < 1000000 := by omega
        rcases I.out.row.2 with ⟨h1, h2⟩ | ⟨wb, wcap, wcur, hla, _, hwb, _⟩
        · omega
        cases hla
        have wl := lt_of_block hwb
        clear hwb
        have hget := List.getElem?_eq_getElem hlt
        have hwho := HW.out k l[k] hget
        have ho := writes_lt n t.ac l[k] (by rw [HWR.out]; exact List.getElem_mem hlt)
        have HWT := Lib.hid (wakeAll_take (ys.map Prod.fst) n (app z t.ac) (p + 1) place hget s0)
        have crow := I.out.row.cellAt k (show k < l.length * 1 by omega)
        rw [List.getElem?_map, hget] at crow
        clear hget
        generalize l[k] = o at *
        have crow' : wr.cell? ⟨wb, k, none⟩ = some (.int .i64 o) := crow
        clear crow
        have ho' : (o : Int) < (n : Int) := by omega
        have ho6 : (o : Int) ≤ 1000000 := by have := HN.out; omega
        obtain ⟨wsv, wvv, wmb, wrd, hwk, hwF⟩ := I.out.wk
        obtain ⟨xa, xc, hxv⟩ := owns_slice hwk.vals
        subst hxv
        rcases hwk.vals.2 with ⟨h1, h2⟩ | ⟨xb, xcap, xcur, hxa, _, hxb, _⟩
        · omega
        cases hxa
        have xl := lt_of_block hxb
        clear hxb
        have d2 : wr.cell? ⟨b, 2, none⟩ = some (.slice (some ⟨xb, 0, none⟩) n xc) := hwk.blk.cell 2
        have dz : wr.cell? ⟨xb, o, none⟩ = some (.int .i64 (app z t.ac o)) := (hwk.vals.cellAt o (show o < n * 1 by omega)).trans (vals_get _ _ _ ho)
        have bl := hwk.blk.lt
        clear hwk hwF
        have GW := Lib.hid (gb_only G0.out I.out.step.only HFB2.out)
        have hFG : ∀ i, G i → w0.heap.size ≤ i := fun i hi => by
          rcases I.out.step.foot i hi with h | h
          · exact HFB2.out i h
          · have := G0.out.size
            omega
        have WKE := Lib.hid (wake_any w0 wr G b (some ⟨tb, off, none⟩) tc ys n (app z t.ac) (p + 1) place (wakeAll (ys.map Prod.fst) n (app z t.ac) (p + 1) place (l.take k) s0) (N + 1000 * k) (o : Int) (app z t.ac o) HT.out GW.out hFG I.out.wk I.out.ok (by omega) (wf_small ho6) (HZW.out o ho) hwho.1 hwho.2)
        clear hwho hFG
        go_wp2_with (first | (go_at_call 72; refine WKE.out.mono ?_; rintro r u5 ⟨rfl, G5, h5, ok5, st5⟩) | go_in)
        go_roundw
        case rel => exact ⟨k + 1, G5, by omega, by go_num, I.out.next HWT.out h5.out ok5.out st5.out⟩
        case measure => simp [intOf]; omega
      · obtain rfl : k = l.length := by omega
        have hend : l.take l.length = l := List.take_length
        go_wp2
        (first | go_end0 | refine bodyPost_ret (results_none rfl _ _ _) rfl ?_)
        have h1 := I.out.wk
        have h2 := I.out.ok
        rw [hend] at h1 h2
        refine ⟨rfl, G, ?_, ?_, I.out.step⟩
        · have := h1.more (N' := N + 1000000) (by omega)
          rw [HS0.out]
          exact this
        · have := h2.more (M := N + 1000000) (by omega) (by omega)
          rw [HS0.out]
          exact this
end Go.Proofs.Ytkidkhjpijjphaa.oq

/- States of a beginning of a trace; lists of states as they lie; are they the same? -/
namespace Go.Proofs.Ytkidkhjpijjphaa.md
open Go Go.RowKit Go.Proofs.Ytkidkhjpijjphaa.base Go.Proofs.Ytkidkhjpijjphaa.hs Go.Proofs.Ytkidkhjpijjphaa.lg Go.Maps
set_option linter.unusedVariables false
set_option maxRecDepth 100000

theorem map_filter_same {α β : Type} (p : β → Bool) (f g : α → β) : ∀ l : List α, (∀ b ∈ l, (p (f b) = false ∧ p (g b) = false) ∨ f b = g b) → (l.map f).filter p = (l.map g).filter p
  | [], _ => rfl
  | b :: l, h => by
    have ih := map_filter_same p f g l (fun x hx => h x (List.mem_cons_of_mem _ hx))
    simp only [List.map_cons, List.filter_cons]
    rcases h b (by simp) with ⟨h1, h2⟩ | h1
    · rw [h1, h2, ih]; simp
    · rw [h1, ih]

theorem tries_at_end (e : Evs) (n i : Nat) (hi : i < n) : (tries e (n + 1)).filter (fun t => t.co && decide (t.en = (i : Int))) = (tries e n).filter (fun t => t.co && decide (t.en = (i : Int))) := by
  have key : ((begins e n).map fun b => trAt e b (n + 1)).filter (fun t => t.co && decide (t.en = (i : Int))) = ((begins e n).map fun b => trAt e b n).filter (fun t => t.co && decide (t.en = (i : Int))) := by
    refine map_filter_same _ _ _ _ fun b hb => ?_
    by_cases h : 0 ≤ (trAt e b n).en
    · exact .inr (trAt_end e b h (Nat.le_succ n))
    · left
      have h1 : ¬ (trAt e b n).en = (i : Int) := by omega
      refine ⟨?_, by simp [h1]⟩
      have h2 : ¬ (trAt e b (n + 1)).en = (i : Int) := by
        rw [trAt]
        split
        · rw [stepT_en]
          split
          · omega
          · exact h1
        · exact h1
      simp [h2]
  unfold tries
  rw [begins_succ]
  split
  · rw [List.map_append, List.filter_append, key]
    have h0 : trAt e n (n + 1) = init n (e n) := trAt_init e n (n + 1) (Nat.le_refl _)
    simp [h0, init]
  · exact key

theorem commsD_succ (e : Evs) (n : Nat) : commsD e (n + 1) = commsD e n ++ (tries e (n + 1)).filter (fun t => t.co && decide (t.en = (n : Int))) := by
  unfold commsD
  rw [List.range_succ, List.flatMap_append]
  congr 1
  · have h : ∀ l : List Nat, (∀ i ∈ l, i < n) → l.flatMap (fun (i : Nat) => (tries e (n + 1)).filter (fun t => t.co && decide (t.en = (i : Int)))) = l.flatMap (fun (i : Nat) => (tries e n).filter (fun t => t.co && decide (t.en = (i : Int)))) := by
      intro l
      induction l with
      | nil => intro _; rfl
      | cons i l ih =>
        intro h
        rw [List.flatMap_cons, List.flatMap_cons, tries_at_end e n i (h i (by simp)), ih (fun x hx => h x (List.mem_cons_of_mem _ hx))]
    exact h _ (fun i hi => List.mem_range.1 hi)
  · simp
theorem commsD_pre (e : Evs) (m : Nat) : ∀ j, ∃ R, commsD e (m + j) = commsD e m ++ R
  | 0 => ⟨[], by simp⟩
  | j + 1 => by
    obtain ⟨R, h⟩ := commsD_pre e m j
    exact ⟨R ++ _, by rw [← Nat.add_assoc, commsD_succ, h, List.append_assoc]⟩
theorem cacs_pre (e : Evs) {m n : Nat} (hr : right e n = true) (hm : m ≤ n) : ∃ R, cacs e n = cacs e m ++ R := by
  obtain ⟨R, h⟩ := commsD_pre e m (n - m)
  rw [show m + (n - m) = n by omega] at h
  exact ⟨R.map Tr.ac, by unfold cacs; rw [if_pos hr, if_pos (right_le e hr m hm), h, List.map_append]⟩
theorem cacs_before (e : Evs) {n : Nat} (hr : right e n = true) : (cacs e n).length = before e n := by
  unfold cacs
  rw [if_pos hr, List.length_map, (commsD_perm e hr).length_eq, comms_before e hr]
theorem cacs_len (e : Evs) (n : Nat) : (cacs e n).length ≤ n := by
  unfold cacs
  split
  · next hr =>
    rw [List.length_map, (commsD_perm e hr).length_eq]
    exact Nat.le_trans (List.length_filter_le _ _) (tries_n' e n)
  · exact Nat.zero_le _

/-- m lists of n numbers lie there, wherever. -/
def StsAt (w : World) (a : Option Addr) (m n : Nat) (F : Nat → Nat → Int) : Prop :=
  m = 0 ∨ ∃ b off, a = some ⟨b, off, none⟩ ∧ b < w.heap.size ∧ ∀ i, i < m → ∃ ai ci, w.cell? ⟨b, off + i, none⟩ = some (.slice ai n ci) ∧ IsNums .i64 w ai n (F i)
theorem StsAt.keep {w w' : World} {a : Option Addr} {m n : Nat} {F : Nat → Nat → Int} (h : StsAt w a m n F) (g : ∀ k, k < w.heap.size → w'.heap[k]? = w.heap[k]?) (hs : w.heap.size ≤ w'.heap.size) : StsAt w' a m n F := by
  rcases h with h | ⟨b, off, h1, h2, h3⟩
  · exact .inl h
  · refine .inr ⟨b, off, h1, by omega, fun i hi => ?_⟩
    obtain ⟨ai, ci, h4, h5⟩ := h3 i hi
    exact ⟨ai, ci, (World.cell?_of_block (g b h2)).trans h4, h5.keep (fun k _ _ hk => g k hk) hs⟩
theorem StsAt.grown {w w' : World} {a : Option Addr} {m n : Nat} {F : Nat → Nat → Int} (h : StsAt w a m n F) (g : w.grownBy w' none) : StsAt w' a m n F := h.keep (fun k hk => g.block k hk (by simp)) g.size
theorem StsAt.below {w w' : World} {a : Option Addr} {m n : Nat} {F : Nat → Nat → Int} (h : StsAt w a m n F) (g : Below w.heap.size w w') : StsAt w' a m n F := h.keep (fun k hk => g.block k hk) g.size
theorem StsAt.less {w : World} {a : Option Addr} {m n k : Nat} {F : Nat → Nat → Int} (h : StsAt w a m n F) (hk : k ≤ m) : StsAt w a k n F := by
  rcases h with h | ⟨b, off, h1, h2, h3⟩
  · exact .inl (by omega)
  · exact .inr ⟨b, off, h1, h2, fun i hi => h3 i (by omega)⟩
theorem StsAt.congr {w : World} {a : Option Addr} {m n : Nat} {F G : Nat → Nat → Int} (h : StsAt w a m n F) (e : ∀ i, i < m → F i = G i) : StsAt w a m n G := by
  rcases h with h | ⟨b, off, h1, h2, h3⟩
  · exact .inl h
  · refine .inr ⟨b, off, h1, h2, fun i hi => ?_⟩
    rw [← e i hi]
    exact h3 i hi
theorem StsAt.at {w : World} {a : Option Addr} {m n i : Nat} {F : Nat → Nat → Int} (h : StsAt w a m n F) (hi : i < m) : ∃ b off ai ci, a = some ⟨b, off, none⟩ ∧ b < w.heap.size ∧ w.cell? ⟨b, off + i, none⟩ = some (.slice ai n ci) ∧ IsNums .i64 w ai n (F i) := by
  rcases h with h | ⟨b, off, h1, h2, h3⟩
  · omega
  · obtain ⟨ai, ci, h4, h5⟩ := h3 i hi
    exact ⟨b, off, ai, ci, h1, h2, h4, h5⟩
theorem StsAt.of_rows {w : World} {B B' : Nat} {a : Option Addr} {c n : Nat} {us : List Value} {F : Nat → Nat → Int} (h : w.ownsRow B 22 1 (.slice a us.length c) us.length us) (hu : ∀ i u, us[i]? = some u → RowAt w B' n (F i) u) : StsAt w a us.length n F := by
  rcases h.2 with ⟨_, h0⟩ | ⟨g, cap, cur, e, hb, hg, _⟩
  · exact .inl h0
  · injection e with e1 e2 e3
    subst e1
    refine .inr ⟨g, 0, rfl, lt_of_block hg, fun i hi => ?_⟩
    obtain ⟨ai, ci, h1, h2⟩ := hu i us[i] (List.getElem?_eq_getElem hi)
    refine ⟨ai, ci, ?_, ?_⟩
    · rw [Nat.zero_add, ← h1, ← List.getElem?_eq_getElem hi]
      exact h.cellAt i (by omega)
    · rw [h1] at h2
      exact IsNums.of_own h2

end Go.Proofs.Ytkidkhjpijjphaa.md

/- Where tries are seen: who the last one of a thread is; which one commits. -/
namespace Go.Proofs.Ytkidkhjpijjphaa.oq
open Go Go.RowKit Go.Proofs.Ytkidkhjpijjphaa.base Go.Proofs.Ytkidkhjpijjphaa.hs Go.Proofs.Ytkidkhjpijjphaa.md
set_option linter.unusedVariables false
set_option linter.unusedSimpArgs false

theorem nodup_bound : ∀ (T : Nat) (l : List Nat), l.Nodup → (∀ x ∈ l, x < T) → l.length ≤ T
  | 0, l, _, h => by
    cases l with
    | nil => exact Nat.le_refl _
    | cons a l => exact absurd (h a (by simp)) (by omega)
  | T + 1, l, hn, h => by
    have h1 := nodup_bound T (l.erase T) (hn.erase T) (fun x hx => by
      have := (hn.mem_erase_iff).1 hx
      have := h x this.2
      omega)
    by_cases hm : T ∈ l
    · rw [List.length_erase_of_mem hm] at h1
      omega
    · rw [List.erase_of_not_mem hm] at h1
      omega

theorem before_bound (e : Evs) : ∀ n, before e n ≤ n
  | 0 => Nat.le_refl _
  | n + 1 => by have := before_bound e n; rw [before]; split <;> omega

/-- The try that a thread began last, by its place among the tries. -/
def lastB (e : Evs) (i : Nat) (th : Int) : Option Value := if lastI e i th < 0 then none else some (.int .i64 ((begins e (lastI e i th).toNat).length : Nat))
theorem lastB_zero (e : Evs) (th : Int) : lastB e 0 th = none := rfl
theorem lastB_same (e : Evs) {i : Nat} (h : (e i).k ≠ 1) : lastB e (i + 1) = lastB e i := by
  funext th
  have hl : lastI e (i + 1) th = lastI e i th := by rw [lastI, if_neg (fun h2 => h h2.1)]
  unfold lastB
  rw [hl]
theorem lastB_begin (e : Evs) {i : Nat} (h : (e i).k = 1) : lastB e (i + 1) = upd (lastB e i) (e i).th (some (.int .i64 ((begins e i).length : Nat))) := by
  funext th
  by_cases ht : th = (e i).th
  · subst ht
    rw [upd_same]
    have hl : lastI e (i + 1) (e i).th = (i : Int) := by rw [lastI, if_pos ⟨h, rfl⟩]
    unfold lastB
    rw [hl, if_neg (by omega)]
    simp
  · rw [upd_other _ _ ht]
    have hl : lastI e (i + 1) th = lastI e i th := by rw [lastI, if_neg (fun h2 => ht h2.2.symm)]
    unfold lastB
    rw [hl]
theorem begins_at (e : Evs) {i len : Nat} (h : (e i).k = 1) (hi : i < len) : (begins e len)[(begins e i).length]? = some i := by
  obtain ⟨r, hr⟩ := begins_pre e (i + 1) (len - (i + 1))
  rw [show i + 1 + (len - (i + 1)) = len by omega, begins_succ, if_pos h] at hr
  rw [hr, List.append_assoc, List.getElem?_append_right (Nat.le_refl _), Nat.sub_self]
  rfl
theorem tries_at (e : Evs) {i len : Nat} (h : (e i).k = 1) (hi : i < len) : (tries e len)[(begins e i).length]? = some (trAt e i len) := by
  unfold tries
  rw [List.getElem?_map, begins_at e h hi]
  rfl
/-- Who commits. -/
theorem commit_at (e : Evs) {i len : Nat} (hr : right e len = true) (hi : i < len) (h5 : (e i).k = 5) : ∃ b, b < i ∧ lastB e i (e i).th = some (.int .i64 ((begins e b).length : Nat)) ∧ (tries e len)[(begins e b).length]? = some (trAt e b len) ∧ (trAt e b len).co = true ∧ (trAt e b len).en = (i : Int) ∧ (cacs e len)[before e i]? = some (trAt e b len).ac := by
  have hm := right_may e hr hi
  obtain ⟨b, ho⟩ : ∃ b, opn e i (e i).th = some b := by
    cases ho : opn e i (e i).th with
    | some b => exact ⟨b, rfl⟩
    | none =>
      unfold may at hm
      rw [ho] at hm
      simp [h5] at hm
  obtain ⟨b1, b2, b3, b4⟩ := opn_spec e _ _ _ ho
  have e1 := trAt_ends e ho (.inl h5)
  have e2 : trAt e b len = trAt e b (i + 1) := trAt_end e b (by omega) (by omega)
  have hco : (trAt e b (i + 1)).co = true := by
    rw [trAt_step e ho]
    unfold base.stepT
    simp [h5]
  have hri := right_le e hr i (by omega)
  have hri1 := right_le e hr (i + 1) (by omega)
  refine ⟨b, b1, ?_, tries_at e b2 (by omega), by rw [e2]; exact hco, by rw [e2]; exact e1, ?_⟩
  · have h := opn_ref e i (e i).th
    rw [ho] at h
    split at h
    · next hc =>
      injection h with h
      unfold lastB
      rw [if_neg (by omega), ← h]
    · cases h
  · obtain ⟨R, hR⟩ := commsD_pre e (i + 1) (len - (i + 1))
    rw [show i + 1 + (len - (i + 1)) = len by omega, commsD_succ] at hR
    have hl : (commsD e i).length = before e i := by
      have := cacs_before e hri
      unfold cacs at this
      rwa [if_pos hri, List.length_map] at this
    have hmem : trAt e b (i + 1) ∈ (tries e (i + 1)).filter (fun t => t.co && decide (t.en = (i : Int))) := by
      rw [List.mem_filter]
      exact ⟨(tries_mem e (i + 1) _).2 ⟨b, by omega, b2, rfl⟩, by simp [hco, e1]⟩
    have hall : ∀ t ∈ (tries e (i + 1)).filter (fun t => t.co && decide (t.en = (i : Int))), t = trAt e b (i + 1) := fun t ht => by
      rw [List.mem_filter] at ht
      simp at ht
      exact en_one e hri1 ht.1 ((tries_mem e (i + 1) _).2 ⟨b, by omega, b2, rfl⟩) (by omega) (by rw [e1]; exact ht.2.2)
    unfold cacs
    rw [if_pos hr, List.getElem?_map, hR, List.append_assoc, List.getElem?_append_right (by omega), hl, Nat.sub_self, e2]
    cases hf : (tries e (i + 1)).filter (fun t => t.co && decide (t.en = (i : Int))) with
    | nil => rw [hf] at hmem; simp at hmem
    | cons a l =>
      have := hall a (by rw [hf]; simp)
      rw [this]
      rfl
end Go.Proofs.Ytkidkhjpijjphaa.oq

/- Package opaque's walk: along all events. -/
namespace Go.Proofs.Ytkidkhjpijjphaa.oq
open Go Go.RowKit Go.Proofs.Ytkidkhjpijjphaa.base Go.Proofs.Ytkidkhjpijjphaa.hs Go.Proofs.Ytkidkhjpijjphaa.lg Go.Proofs.Ytkidkhjpijjphaa.md Go.Maps
set_option linter.unusedVariables false
set_option maxRecDepth 100000
set_option linter.unusedSimpArgs false

set_option maxHeartbeats 1000000 in
theorem begins_any (w : World) (F : Nat → Prop) (b : Nat) (ta : Option Addr) (tc : Nat) (ys : List (Tr × Value)) (n : Nat) (z : Nat → Int) (p : Nat) (s : Wk) (N : Nat) (no : Nat) (t : Tr) (yv : Value) (hT : TsAt w ta ys) (hy : ys[no]? = some (t, yv)) (h : WkM w F b (.slice ta ys.length tc) n z p s N) (ok : WkOk (ys.map Prod.fst) n p s N) :
    Calls Try.prog 58 #[.pointer (some ⟨b, 0, none⟩), .int .i64 no] w fun r w' => r = .returned (.tuple #[]) ∧ ∃ F', Hid (WkM w' F' b (.slice ta ys.length tc) n z p (if t.co = true then s else base.ask n z p t.ac no s) (N + 1)) ∧ Hid (Step F F' w w') := by
  have ASK := Lib.hid (ask_any w F b ta tc ys n z p s N no t yv hT hy h ok)
  have H := Lib.hid h
  obtain ⟨sv, vv, mb, rd, h0, hF⟩ := h
  have hno : no < ys.length := (List.getElem?_eq_some_iff.1 hy).1
  have hno' : (no : Int) < (ys.length : Int) := by omega
  obtain ⟨tb, off, va, vc, rfl, htb, hv, hl, c0, c1, c2, c3, c4, c5, c6, c7, c8⟩ := hT.at hy
  dsimp only at hv hl c7
  have b0 : w.cell? ⟨b, 0, none⟩ = some (.slice (some ⟨tb, off, none⟩) ys.length tc) := h0.blk.cell 0
  have bl := h0.blk.lt
  clear h0 hF hT hy ok hv hl c0 c1 c2 c3 c4 c5 c6 c8
  obtain ⟨xth, xtx, xat, xst, xb, xen, xre, xco, ac⟩ := t
  dsimp only at c7 ASK ⊢
  cases xco with
  | true =>
    go_enter Try.func58, Try.ntmps58
    go_wp2
    (first | go_end0 | refine bodyPost_ret (results_none rfl _ _ _) rfl ?_)
    exact ⟨rfl, F, H.out.more (Nat.le_succ _), Step.refl _ _⟩
  | false =>
    go_enter Try.func58, Try.ntmps58
    go_wp2_with (first | (go_at_call 70; refine ASK.out.mono ?_; rintro r u ⟨rfl, F', h1, h2⟩) | go_in)
    (first | go_end0 | refine bodyPost_ret (results_none rfl _ _ _) rfl ?_)
    exact ⟨rfl, F', h1, h2⟩

theorem zeroInt4 (w : World) : (zeroValue 3).run Try.prog w = .ok (.int .i64 0) w := by kernel_rfl
theorem app_wf {n : Nat} {z : Nat → Int} {l : List Acc} (hz : ∀ i, i < n → (Lit.int .i64 (z i)).wf = true) (hl : ∀ a ∈ l, AccWf a) : ∀ i, i < n → (Lit.int .i64 (app z l i)).wf = true := fun i hi => by
  rw [app_last]
  cases h : lastW l i with
  | none => exact hz i hi
  | some v =>
    obtain ⟨a, ha, _, _, hv⟩ := lastW_some h
    exact hv ▸ (hl a ha).va
theorem stAt_wf {n : Nat} {z : Nat → Int} {c : List (List Acc)} (hz : ∀ i, i < n → (Lit.int .i64 (z i)).wf = true) (hl : ∀ l ∈ c, ∀ a ∈ l, AccWf a) : ∀ k i, i < n → (Lit.int .i64 (stAt z c k i)).wf = true
  | 0, i, hi => hz i hi
  | k + 1, i, hi => by
    cases hk : c[k]? with
    | none =>
      have : stAt z c (k + 1) = stAt z c k := by
        unfold stAt
        rw [List.take_add_one, hk]
        simp
      rw [this]
      exact stAt_wf hz hl k i hi
    | some l =>
      rw [stAt_step z hk]
      exact app_wf (stAt_wf hz hl k) (hl l (List.mem_of_getElem? hk)) i hi

/-- What stands while the events are gone through. -/
structure ThI (w : World) (F : Nat → Prop) (b : Nat) (tv : Value) (e : Evs) (n len : Nat) (S : Nat → Nat → Int) (lb i : Nat) (wr : World) (G : Nat → Prop) (s : Wk) (N : Nat) : Prop where
  wk : WkM wr G b tv n (S (before e i)) (before e i : Nat) s N
  ok : WkOk (tries e len) n (before e i) s N
  inv : WkInv e n len S i s
  nle : N ≤ i * 1000001
  map : MapG Try.prog 3 (Value.int .i64) wr lb i (lastB e i)
  sep : ¬ G lb
  step : Step F G w wr

theorem WkM.only {w w' : World} {F S : Nat → Prop} {b n N : Nat} {tv : Value} {z : Nat → Int} {p : Int} {s : Wk} (h : WkM w F b tv n z p s N) (o : Only S w w') (hs : ∀ k, F k → ¬ S k) : WkM w' F b tv n z p s N := by
  obtain ⟨sv, vv, mb, rd, h, hF⟩ := h
  exact ⟨sv, vv, mb, rd, h.keep fun k hk => o.block k (h.lts k hk) (hs k (hF k hk)), hF⟩

set_option maxHeartbeats 4000000 in
theorem through_any (w0 w : World) (F : Nat → Prop) (b : Nat) (ta : Option Addr) (tc : Nat) (ys : List (Tr × Value)) (n : Nat) (z : Nat → Int) (s : Wk) (la : Option Addr) (len lc : Nat) (e : Evs) (hT : TsAt w0 ta ys) (hys : ys.map Prod.fst = tries e len) (hL : IsEvs w0 la len e) (g0 : w0.grownBy w none) (hFB : ∀ k, F k → w0.heap.size ≤ k)
    (h : WkM w F b (.slice ta ys.length tc) n z (0 : Nat) s 0) (hFl : ∀ k, F k → k < w.heap.size) (ok : WkOk (ys.map Prod.fst) n 0 s 0) (hr : right e len = true) (hlen : len ≤ 1000) (hz : ∀ i, i < n → (Lit.int .i64 (z i)).wf = true) (hinv : WkInv e n len (fun k => stAt z (cacs e len) k) 0 s) :
    Calls Try.prog 43 #[.pointer (some ⟨b, 0, none⟩), .slice la len lc] w fun r w' => r = .returned (.tuple #[]) ∧ ∃ F' s' N', Hid (WkM w' F' b (.slice ta ys.length tc) n (stAt z (cacs e len) (before e len)) (before e len : Nat) s' N') ∧ Hid (WkInv e n len (fun k => stAt z (cacs e len) k) len s') ∧ Hid (Step F F' w w') := by
  obtain ⟨S, hS⟩ : ∃ S : Nat → Nat → Int, S = fun k => stAt z (cacs e len) k := ⟨_, rfl⟩
  rw [← hS] at hinv ⊢
  have HS := Lib.hid hS
  have HZ := Lib.hid hz
  have HT := Lib.hid hT
  have HYS := Lib.hid hys
  have HL := Lib.hid hL
  have G0 := Lib.hid g0
  have HFB := Lib.hid hFB
  have HR := Lib.hid hr
  have HLEN := Lib.hid hlen
  have hlen6 : (len : Int) ≤ 1000 := by omega
  have hyl : ys.length = (tries e len).length := by rw [← hys, List.length_map]
  have HYL := Lib.hid hyl
  have ACW := Lib.hid ok.acs
  rw [hys] at ok
  have I0 : Hid (ThI w F b (.slice ta ys.length tc) e n len S w.heap.size 0 (w.alloc (.map #[] 0)) F s 0) := Lib.hid
    ⟨by have := h.grown (World.grownBy_alloc w (.map #[] 0) none); rw [hS]; exact this, ok, hinv, Nat.zero_le _, MapG.made w _ _ _, fun hk => by have := hFl _ hk; omega, Step.none (World.grownBy_alloc w (.map #[] 0) none)⟩
  clear hS hz hT hys hL g0 hFB hr hlen hyl ok h hFl hinv
  have hmm := @run_makeMap Try.prog
  go_enter Try.func43, Try.ntmps43
  go_wp2_with fail
  clear hmm
  generalize w.alloc _ = u0 at *
  generalize hlb : w.heap.size = lb at *
  have HLB := Lib.hid hlb
  clear hlb
  go_loopw [4, 11] (fun bv iv wr => ∃ (i : Nat) (G : Nat → Prop) (s : Wk) (N : Nat), i ≤ len ∧ iv = .int .i64 i ∧ bv = .int .i64 ((begins e i).length : Nat) ∧ Hid (ThI w F b (.slice ta ys.length tc) e n len S lb i wr G s N)) (fun _ iv _ => (len - intOf iv).toNat)
  case atStart => exact ⟨0, F, s, 0, by omega, rfl, rfl, I0⟩
  case round =>
    clear I0
    obtain ⟨i, G, s, N, hi, rfl, rfl, I⟩ := hrel
    by_cases hlt : i < len
    · have hlt' : (i : Int) < (len : Int) := by omega
      have hi6 : (i : Int) < 1000 := by omega
      have GW := Lib.hid (gb_only G0.out I.out.step.only HFB.out)
      obtain ⟨eb, off, rfl, heb, c0, c1, c2, c3, c4, c5, c6, EW⟩ := (HL.out.grown GW.out).at7 hlt
      have HLW := I.out.map
      have hlb := HLW.lt
      have hsep := Lib.hid I.out.sep
      have hbp := before_bound e i
      have hbl := begins_n e i
      have hGB : ∀ k, G k → w0.heap.size ≤ k := fun k hk => by
        rcases I.out.step.foot k hk with h | h
        · exact HFB.out k h
        · have := G0.out.size
          have := HLB.out
          omega
      have HGB := Lib.hid hGB
      clear hGB
      by_cases hk1 : (e i).k = 1
      · have hbe : before e (i + 1) = before e i := by rw [before, if_neg (by omega)]; rfl
        have hbs : (begins e (i + 1)).length = (begins e i).length + 1 := by rw [begins_succ, if_pos hk1, List.length_append]; rfl
        have hty := tries_at e hk1 hlt
        have hyl := (List.getElem?_eq_some_iff.1 hty).1
        have htb : (trAt e i len).b = (i : Int) := (trAt_fix e i len).2.2.2.2
        have HINV := Lib.hid (I.out.inv.begin_ HR.out hk1 hty htb)
        have HLBN := Lib.hid (lastB_begin e hk1)
        rw [← HYS.out, List.getElem?_map, Option.map_eq_some_iff] at hty
        obtain ⟨⟨t, yv⟩, hy, hte⟩ := hty
        dsimp only at hte
        rw [← hte] at HINV
        have HY := Lib.hid hy
        have HBE := Lib.hid hbe
        have HBS := Lib.hid hbs
        have hk := HLBN.out
        obtain ⟨bn, hbn⟩ : ∃ bn, bn = (begins e i).length := ⟨_, rfl⟩
        rw [← hbn] at HINV HLBN HY HBS hbl ⊢
        have hbn6 : (bn : Int) ≤ 1000 := by omega
        rw [hk1] at c0
        clear hk hbe hbs hyl htb hte hy hk1 hbn
        obtain ⟨w1, w2, w3, w4, w5, w6, w7⟩ := EW
        generalize (e i).th = th at *
        generalize (e i).tx = tx at *
        generalize (e i).at_ = at_ at *
        generalize (e i).ob = ob at *
        generalize (e i).va = va at *
        generalize (e i).re = re at *
        have G1 := Lib.hid (World.grownBy_alloc wr (.cells #[.int .i64 1, .int .i64 th, .int .i64 tx, .int .i64 at_, .int .i64 ob, .int .i64 va, .int .i64 re] 51) none)
        have EB := Lib.hid (Blk.made wr 51 #[.int .i64 1, .int .i64 th, .int .i64 tx, .int .i64 at_, .int .i64 ob, .int .i64 va, .int .i64 re])
        have M1 := Lib.hid (HLW.grown G1.out (by simp))
        have KI := Lib.hid (keyInt w2)
        have WK1 := Lib.hid (I.out.wk.grown G1.out)
        have GW1 := Lib.hid (gb_trans GW.out G1.out)
        clear HLW
        go_wp2_with (first
          | (at_mapUpdate; refine wpList_set_mapG rfl _ _ _ 36 rfl 3 3 kInt (Value.int .i64) vint_inj Try.underlying36 lb i (lastB e i) rfl M1.out (by unfold maxLen; omega) th _ rfl KI.out (.int .i64 bn) rfl ?_; intro u1 m1 g1; have MM := Lib.hid m1; have O1 := Lib.hid (Only.of (S := fun k => k = lb) g1 (fun k e _ => by cases e; rfl)); have WK2 := Lib.hid (WK1.out.only O1.out (fun k hk e => hsep.out (e ▸ hk))); have GW2 := Lib.hid (gb_only GW1.out O1.out (fun k e => by have := HLB.out; have := G0.out.size; omega)); have BEG := Lib.hid (begins_any u1 G b ta tc ys n (S (before e i)) (before e i) s N bn t yv (HT.out.grown GW2.out) HY.out WK2.out (by rw [HYS.out]; exact I.out.ok)); clear m1 g1)
          | (go_at_call 58; refine BEG.out.mono ?_; rintro r u2 ⟨rfl, G2, h1, h2⟩)
          | go_in)
        have ST1 : Step F G w u1 := ⟨only_later (I.out.step.only.trans (Only.none G1.out)) O1.out (fun k hk e => by have := HLB.out; omega), fun k hk => (I.out.step.foot k hk)⟩
        have hlu := MM.out.lt
        go_roundw
        case rel =>
          refine ⟨i + 1, G2, _, N + 1, by omega, by go_num, by rw [HBS.out]; go_num, ⟨?_, ?_, HINV.out, by have := I.out.nle; omega, ?_, fun hk => ?_, ST1.trans h2.out⟩⟩
          · rw [HBE.out]
            exact h1.out
          · rw [HBE.out]
            have ho := I.out.ok
            split
            · exact ho.more (Nat.le_succ _) (by have := I.out.nle; omega)
            · exact ho.ask (by have := I.out.nle; omega) _ _ _
          · rw [HLBN.out]
            exact MM.out.keep (h2.out.only.block lb hlu hsep.out)
          · rcases h2.out.foot lb hk with h | h
            · exact hsep.out h
            · omega
        case measure => simp [intOf]; omega
      · by_cases hk5 : (e i).k = 5
        · have hbe : before e (i + 1) = before e i + 1 := by rw [before, if_pos hk5]
          have hbs : begins e (i + 1) = begins e i := by rw [begins_succ, if_neg hk1]
          obtain ⟨b0, hb0, hlast, hty, hco, hen, hca⟩ := commit_at e HR.out hlt hk5
          have hbl0 := begins_n e b0
          have hSS : S (before e i + 1) = app (S (before e i)) (trAt e b0 len).ac := by
            rw [HS.out]
            exact stAt_step z hca
          have hmid := I.out.inv.mid HR.out hlt hk5 hty hco hen hSS
          have HINV := Lib.hid (I.out.inv.commit HR.out hlt hk5 hty hco hen hSS)
          have hmem : ∀ (l : List Nat) (x : Int × Int), ((wakeAll (tries e len) n (S (before e (i + 1))) (before e i + 1) i l (if fits n (S (before e i)) (trAt e b0 len).ac = true then ⟨s.seen.set (begins e b0).length (before e i), s.M⟩ else s)).M x).length ≤ 1000 ∧ ∀ no ∈ (wakeAll (tries e len) n (S (before e (i + 1))) (before e i + 1) i l (if fits n (S (before e i)) (trAt e b0 len).ac = true then ⟨s.seen.set (begins e b0).length (before e i), s.M⟩ else s)).M x, no < ys.length := fun l x => by
            have hp := hmid.part hlt hk5 HR.out l
            have h1 : ∀ no ∈ (wakeAll (tries e len) n (S (before e (i + 1))) (before e i + 1) i l (if fits n (S (before e i)) (trAt e b0 len).ac = true then ⟨s.seen.set (begins e b0).length (before e i), s.M⟩ else s)).M x, no < ys.length := fun no hno => by
              obtain ⟨_, t', ht', _⟩ := hp.mem x no hno
              rw [HYL.out]
              exact (List.getElem?_eq_some_iff.1 ht').1
            refine ⟨Nat.le_trans (nodup_bound _ _ (hp.nodup x) h1) ?_, h1⟩
            have := I.out.ok.len
            rw [HYL.out]
            exact this
          rw [hbe, hSS] at hmem
          have HMEM := Lib.hid hmem
          have HSA := Lib.hid (hbe ▸ hSS)
          have HLBN := Lib.hid (lastB_same e hk1)
          have HBE := Lib.hid hbe
          have HBS := Lib.hid hbs
          have hwfS : ∀ k o, o < n → (Lit.int .i64 (S k o)).wf = true := fun k o ho => by
            rw [HS.out]
            refine stAt_wf HZ.out (fun l hl => ?_) k o ho
            unfold cacs at hl
            rw [if_pos HR.out] at hl
            obtain ⟨t', ht', rfl⟩ := List.mem_map.1 hl
            have := ((commsD_perm e HR.out).mem_iff).1 ht'
            have hm := (List.mem_filter.1 this).1
            exact (ACW.out t' (by rw [HYS.out]; exact hm)).2
          have HWF := Lib.hid (show ∀ o, o < n → (Lit.int .i64 (app (S (before e i)) (trAt e b0 len).ac o)).wf = true from fun o ho => by
            rw [← hSS]
            exact hwfS _ o ho)
          rw [← HYS.out, List.getElem?_map, Option.map_eq_some_iff] at hty
          obtain ⟨⟨t, yv⟩, hy, hte⟩ := hty
          dsimp only at hte
          rw [← hte] at HINV HMEM HSA HWF
          have HY := Lib.hid hy
          obtain ⟨bn, hbn⟩ : ∃ bn, bn = (begins e b0).length := ⟨_, rfl⟩
          rw [← hbn] at HINV HY HMEM hlast hbl0
          have hbn6 : (bn : Int) ≤ 1000 := by omega
          have HLAST := Lib.hid hlast
          rw [hk5] at c0
          clear hbe hbs hco hen hca hSS hmid hmem hwfS hte hy hk1 hk5 hbn hlast
          obtain ⟨w1, w2, w3, w4, w5, w6, w7⟩ := EW
          generalize (e i).th = th at *
          generalize (e i).tx = tx at *
          generalize (e i).at_ = at_ at *
          generalize (e i).ob = ob at *
          generalize (e i).va = va at *
          generalize (e i).re = re at *
          have G1 := Lib.hid (World.grownBy_alloc wr (.cells #[.int .i64 5, .int .i64 th, .int .i64 tx, .int .i64 at_, .int .i64 ob, .int .i64 va, .int .i64 re] 51) none)
          have EB := Lib.hid (Blk.made wr 51 #[.int .i64 5, .int .i64 th, .int .i64 tx, .int .i64 at_, .int .i64 ob, .int .i64 va, .int .i64 re])
          have M1 := Lib.hid (HLW.grown G1.out (by simp))
          have KI := Lib.hid (keyInt w2)
          have WK1 := Lib.hid (I.out.wk.grown G1.out)
          have GW1 := Lib.hid (gb_trans GW.out G1.out)
          have COM := Lib.hid (commits_any w0 (wr.alloc (.cells #[.int .i64 5, .int .i64 th, .int .i64 tx, .int .i64 at_, .int .i64 ob, .int .i64 va, .int .i64 re] 51)) G b ta tc ys n (S (before e i)) (before e i) i s (if fits n (S (before e i)) t.ac = true then ⟨s.seen.set bn (before e i), s.M⟩ else s) N bn t yv HT.out GW1.out HGB.out WK1.out (by rw [HYS.out]; exact I.out.ok) (by have := I.out.nle; omega) (by omega) HY.out rfl HWF.out (fun k o _ => by rw [HYS.out]; exact HMEM.out _ _))
          clear HLW
          go_wp2_with (first
            | (at_lookup; refine wpList_get_mapG rfl _ _ 36 rfl 3 3 kInt Try.underlying36 _ (zeroInt4 _) (Value.int .i64) lb i (lastB e i) rfl M1.out th _ rfl KI.out (.int .i64 bn) (by rw [HLAST.out]; rfl) ?_)
            | (go_at_call 59; refine COM.out.mono ?_; rintro r u2 ⟨rfl, G2, h1, h3, h2⟩)
            | go_in)
          have hlu := M1.out.lt
          go_roundw
          case rel =>
            refine ⟨i + 1, G2, _, N + 1000000, by omega, by go_num, by rw [HBS.out], ⟨?_, ?_, HINV.out, ?_, ?_, fun hk => ?_, (I.out.step.trans (Step.none G1.out)).trans h2.out⟩⟩
            · have := h1.out
              rw [HYS.out] at this
              rw [HSA.out, HBE.out]
              exact this
            · have := h3.out
              rw [HYS.out] at this
              rw [HBE.out]
              exact this
            · have := I.out.nle
              rw [Nat.add_mul]
              omega
            · rw [HLBN.out]
              exact (M1.out.keep (h2.out.only.block lb hlu hsep.out)).more (Nat.le_succ _)
            · rcases h2.out.foot lb hk with h | h
              · exact hsep.out h
              · omega
          case measure => simp [intOf]; omega
        · have hbe : before e (i + 1) = before e i := by rw [before, if_neg hk5]; rfl
          have hbs : begins e (i + 1) = begins e i := by rw [begins_succ, if_neg hk1]
          have HINV := Lib.hid (I.out.inv.skip HR.out hk1 hk5)
          have HLBN := Lib.hid (lastB_same e hk1)
          have HBE := Lib.hid hbe
          have HBS := Lib.hid hbs
          have f1 : ((e i).k == 1) = false := by simp [hk1]
          have f5 : ((e i).k == 5) = false := by simp [hk5]
          clear hbe hbs hk1 hk5 EW
          generalize (e i).k = kk at *
          generalize (e i).th = th at *
          generalize (e i).tx = tx at *
          generalize (e i).at_ = at_ at *
          generalize (e i).ob = ob at *
          generalize (e i).va = va at *
          generalize (e i).re = re at *
          have G1 := Lib.hid (World.grownBy_alloc wr (.cells #[.int .i64 kk, .int .i64 th, .int .i64 tx, .int .i64 at_, .int .i64 ob, .int .i64 va, .int .i64 re] 51) none)
          go_wp2
          go_roundw
          case rel =>
            refine ⟨i + 1, G, s, N, by omega, by go_num, by rw [HBS.out], ⟨?_, ?_, HINV.out, ?_, ?_, hsep.out, I.out.step.trans (Step.none G1.out)⟩⟩
            · rw [HBE.out]
              exact I.out.wk.grown G1.out
            · rw [HBE.out]
              exact I.out.ok
            · exact Nat.le_trans I.out.nle (Nat.mul_le_mul_right _ (Nat.le_succ i))
            · rw [HLBN.out]
              exact (HLW.grown G1.out (by simp)).more (Nat.le_succ _)
          case measure => simp [intOf]; omega
    · obtain rfl : i = len := by omega
      go_wp2
      (first | go_end0 | refine bodyPost_ret (results_none rfl _ _ _) rfl ?_)
      refine ⟨rfl, G, s, N, ?_, I.out.inv, ?_⟩
      · have := I.out.wk
        rw [HS.out] at this
        exact this
      · exact I.out.step
end Go.Proofs.Ytkidkhjpijjphaa.oq
