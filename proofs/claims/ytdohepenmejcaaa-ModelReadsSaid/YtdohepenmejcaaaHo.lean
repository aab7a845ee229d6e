/- The tries that go on, by their threads: hist's map of them. -/
import Derived.Test.YtdohepenmejcaaaHgD
import Derived.Test.YtdohepenmejcaaaHgB
namespace Go.Proofs.Ytdohepenmejcaaa.hs
open Go Go.RowKit Go.Proofs.Ytdohepenmejcaaa.base Go.Maps
set_option linter.unusedVariables false
set_option maxRecDepth 100000

theorem does_any (w : World) (F : Nat → Prop) (b : Nat) (t : Tr) (N : Nat) (pl : Nat) (e : Ev) (he : Ev.Wf e) (hk : 2 ≤ e.k ∧ e.k ≤ 6) (hF : ∀ k, F k → k < w.heap.size) (h : Gng w F b t (wrote t.ac) (readsF t.ac) N) (hen : t.en = -1) (hm : t.ac.length < 100000) (hN : N < 100000) :
    Calls Try.prog 56 #[.pointer (some ⟨b, 0, none⟩), .int .i64 pl, .agg #[.int .i64 e.k, .int .i64 e.th, .int .i64 e.tx, .int .i64 e.at_, .int .i64 e.ob, .int .i64 e.va, .int .i64 e.re]] w fun r w' => r = .returned (.bool (decide (e.k = 5 ∨ e.k = 6))) ∧ Hid (Gng w' (Up F w w') b (base.stepT t pl e) (wrote (base.stepT t pl e).ac) (readsF (base.stepT t pl e).ac) (N + 1)) ∧ Hid (Only F w w') := by
  obtain ⟨k, th, tx, at_, ob, va, re⟩ := e
  have hk2 : k = 2 ∨ k = 3 ∨ k = 4 ∨ k = 5 ∨ k = 6 := by dsimp only at hk; omega
  rcases hk2 with rfl | rfl | rfl | rfl | rfl
  · exact does_read w F b t N pl th tx at_ ob va re he.ob hF h hen hm hN
  · exact does_write w F b t N pl th tx at_ ob va re he.ob hF h hen hm hN
  · exact does_release w F b t N pl th tx at_ ob va re he.ob hF h hen hm hN
  · exact does_commit w F b t N pl th tx at_ ob va re he.ob hF h hen hm hN
  · exact does_abort w F b t N pl th tx at_ ob va re he.ob hF h hen hm hN

def ptrV (x : Nat × Tr) : Value := .pointer (some ⟨x.1, 0, none⟩)

/-- Block om is the map of the tries that go on: G says for each thread in which block its try lies, and what it is; it lies in the blocks of Fo; all from block B on. -/
structure Opn (B : Nat) (W : World) (om N : Nat) (G : Int → Option (Nat × Tr)) (Fo : Int → Nat → Prop) : Prop where
  map : MapG Try.prog 3 (Value.int .i64) W om N (fun th => (G th).map ptrV)
  gng : ∀ th b t, G th = some (b, t) → Gng W (Fo th) b t (wrote t.ac) (readsF t.ac) N
  lt : ∀ th k, G th ≠ none → Fo th k → B ≤ k ∧ k < W.heap.size ∧ k ≠ om
  apart : ∀ th th' k, G th ≠ none → G th' ≠ none → Fo th k → Fo th' k → th = th'
  om_le : B ≤ om

/-- The blocks of all of it. -/
def OpnF (om : Nat) (G : Int → Option (Nat × Tr)) (Fo : Int → Nat → Prop) : Nat → Prop := fun k => k = om ∨ ∃ th, G th ≠ none ∧ Fo th k

open Classical in
noncomputable def updG (G : Int → Option (Nat × Tr)) (th : Int) (x : Option (Nat × Tr)) : Int → Option (Nat × Tr) := fun p => if p = th then x else G p
open Classical in
noncomputable def updFo (Fo : Int → Nat → Prop) (th : Int) (F : Nat → Prop) : Int → Nat → Prop := fun p => if p = th then F else Fo p
theorem updG_same (G : Int → Option (Nat × Tr)) (th : Int) (x : Option (Nat × Tr)) : updG G th x th = x := by simp [updG]
theorem updG_other (G : Int → Option (Nat × Tr)) {th p : Int} (x : Option (Nat × Tr)) (h : p ≠ th) : updG G th x p = G p := by simp [updG, h]
theorem updFo_same (Fo : Int → Nat → Prop) (th : Int) (F : Nat → Prop) : updFo Fo th F th = F := by simp [updFo]
theorem updFo_other (Fo : Int → Nat → Prop) {th p : Int} (F : Nat → Prop) (h : p ≠ th) : updFo Fo th F p = Fo p := by simp [updFo, h]

section
variable {B : Nat} {W W' : World} {om N : Nat} {G : Int → Option (Nat × Tr)} {Fo : Int → Nat → Prop}
theorem Opn.frame (h : Opn B W om N G Fo) (hk : ∀ k, OpnF om G Fo k → W'.heap[k]? = W.heap[k]?) (hs : W.heap.size ≤ W'.heap.size) : Opn B W' om N G Fo :=
  ⟨h.map.keep (hk _ (.inl rfl)), fun th b t e => (h.gng th b t e).keep (fun k hF => hk _ (.inr ⟨th, by rw [e]; simp, hF⟩)), fun th k e hF => ⟨(h.lt th k e hF).1, Nat.lt_of_lt_of_le (h.lt th k e hF).2.1 hs, (h.lt th k e hF).2.2⟩, h.apart, h.om_le⟩
theorem Opn.grown (h : Opn B W om N G Fo) (g : W.grownBy W' none) : Opn B W' om N G Fo :=
  h.frame (fun k hk => g.block k (by rcases hk with rfl | ⟨th, h1, h2⟩; exact h.map.lt; exact (h.lt th k h1 h2).2.1) (by simp)) g.size
theorem Opn.more (h : Opn B W om N G Fo) : Opn B W om (N + 1) G Fo :=
  ⟨h.map.more (Nat.le_succ _), fun th b t e => (h.gng th b t e).more (fun _ h => h), h.lt, h.apart, h.om_le⟩
theorem OpnF.lt (h : Opn B W om N G Fo) {k : Nat} (hk : OpnF om G Fo k) : B ≤ k ∧ k < W.heap.size := by
  rcases hk with rfl | ⟨th, h1, h2⟩
  · exact ⟨h.om_le, h.map.lt⟩
  · exact ⟨(h.lt th k h1 h2).1, (h.lt th k h1 h2).2.1⟩

/-- An event of a try that goes on. -/
theorem Opn.step (h : Opn B W om N G Fo) {th : Int} {b : Nat} {t t' : Tr} (e : G th = some (b, t)) (hg : Gng W' (Up (Fo th) W W') b t' (wrote t'.ac) (readsF t'.ac) (N + 1)) (ho : Only (Fo th) W W') (hB : B ≤ W.heap.size) :
    Opn B W' om (N + 1) (updG G th (some (b, t'))) (updFo Fo th (Up (Fo th) W W')) := by
  have hne : G th ≠ none := by rw [e]; simp
  have hold : ∀ p k, p ≠ th → G p ≠ none → Fo p k → ¬ Fo th k := fun p k hp h1 h2 h3 => hp (h.apart p th k h1 hne h2 h3)
  refine ⟨((h.map.keep (ho.block _ h.map.lt (fun h1 => (h.lt th om hne h1).2.2 rfl))).more (Nat.le_succ _)).congr (fun x _ _ => ?_), fun p b' t'' hp => ?_, fun p k hp hk => ?_, fun p q k hp hq hk hk' => ?_, h.om_le⟩
  · by_cases hx : x = th
    · subst hx
      rw [updG_same, e]
      rfl
    · rw [updG_other _ _ hx]
  · by_cases hx : p = th
    · subst hx
      rw [updG_same] at hp
      cases hp
      rw [updFo_same]
      exact hg
    · rw [updG_other _ _ hx] at hp
      rw [updFo_other _ _ hx]
      exact ((h.gng p b' t'' hp).keep (fun k hk => ho.block k (h.lt p k (by rw [hp]; simp) hk).2.1 (hold p k hx (by rw [hp]; simp) hk))).more (fun _ h => h)
  · by_cases hx : p = th
    · subst hx
      rw [updFo_same] at hk
      have := h.map.lt
      rcases hk with hk | hk
      · have := h.lt p k hne hk
        exact ⟨this.1, Nat.lt_of_lt_of_le this.2.1 ho.size, this.2.2⟩
      · exact ⟨by omega, hk.2, by omega⟩
    · rw [updG_other _ _ hx] at hp
      rw [updFo_other _ _ hx] at hk
      have := h.lt p k hp hk
      exact ⟨this.1, Nat.lt_of_lt_of_le this.2.1 ho.size, this.2.2⟩
  · by_cases hx : p = th
    · by_cases hy : q = th
      · rw [hx, hy]
      · subst hx
        rw [updFo_same] at hk
        rw [updG_other _ _ hy] at hq
        rw [updFo_other _ _ hy] at hk'
        rcases hk with hk | hk
        · exact absurd hk (hold q k hy hq hk')
        · have := h.lt q k hq hk'
          omega
    · rw [updG_other _ _ hx] at hp
      rw [updFo_other _ _ hx] at hk
      by_cases hy : q = th
      · subst hy
        rw [updFo_same] at hk'
        rcases hk' with hk' | hk'
        · exact absurd hk' (hold p k hx hp hk)
        · have := h.lt p k hp hk
          omega
      · rw [updG_other _ _ hy] at hq
        rw [updFo_other _ _ hy] at hk'
        exact h.apart p q k hp hq hk hk'

/-- A try begins. -/
theorem Opn.put {W'' : World} (h : Opn B W om N G Fo) (th : Int) {b : Nat} {t : Tr} {Fn : Nat → Prop} (g : W.grownBy W' none) (hg : Gng W' Fn b t (wrote t.ac) (readsF t.ac) 0) (hn : ∀ k, Fn k → W.heap.size ≤ k ∧ k < W'.heap.size) (hB : B ≤ W.heap.size)
    (hm : MapG Try.prog 3 (Value.int .i64) W'' om (N + 1) (upd (fun th => (G th).map ptrV) th (some (ptrV (b, t))))) (g2 : W'.grownBy W'' (some om)) :
    Opn B W'' om (N + 1) (updG G th (some (b, t))) (updFo Fo th Fn) := by
  have hl := h.map.lt
  have keepN : ∀ {F : Nat → Prop} {b : Nat} {t : Tr} {Wf : Int → Bool} {R : Int → List Nat} (m : Nat), Gng W'' F b t Wf R 0 → Gng W'' F b t Wf R m := fun m => by
    induction m with
    | zero => exact fun h => h
    | succ m ih => exact fun h => (ih h).more (fun _ h => h)
  refine ⟨hm.congr (fun x _ _ => ?_), fun p b' t'' hp => ?_, fun p k hp hk => ?_, fun p q k hp hq hk hk' => ?_, h.om_le⟩
  · by_cases hx : x = th
    · subst hx
      rw [updG_same, upd_same]
      rfl
    · rw [updG_other _ _ hx, upd_other _ _ hx]
  · by_cases hx : p = th
    · subst hx
      rw [updG_same] at hp
      cases hp
      rw [updFo_same]
      exact keepN _ (hg.keep (fun k hk => g2.block k (hn k hk).2 (by have := hn k hk; simp; omega)))
    · rw [updG_other _ _ hx] at hp
      rw [updFo_other _ _ hx]
      exact ((h.gng p b' t'' hp).keep (fun k hk => by
        have h1 := h.lt p k (by rw [hp]; simp) hk
        exact (g2.block k (Nat.lt_of_lt_of_le h1.2.1 g.size) (by simp; exact h1.2.2)).trans (g.block k h1.2.1 (by simp)))).more (fun _ h => h)
  · have hsz := g2.size
    have hsz1 := g.size
    by_cases hx : p = th
    · subst hx
      rw [updFo_same] at hk
      have := hn k hk
      exact ⟨by omega, by omega, by omega⟩
    · rw [updG_other _ _ hx] at hp
      rw [updFo_other _ _ hx] at hk
      have := h.lt p k hp hk
      exact ⟨this.1, by omega, this.2.2⟩
  · by_cases hx : p = th
    · by_cases hy : q = th
      · rw [hx, hy]
      · subst hx
        rw [updFo_same] at hk
        rw [updG_other _ _ hy] at hq
        rw [updFo_other _ _ hy] at hk'
        have := h.lt q k hq hk'
        have := hn k hk
        omega
    · rw [updG_other _ _ hx] at hp
      rw [updFo_other _ _ hx] at hk
      by_cases hy : q = th
      · subst hy
        rw [updFo_same] at hk'
        have := h.lt p k hp hk
        have := hn k hk'
        omega
      · rw [updG_other _ _ hy] at hq
        rw [updFo_other _ _ hy] at hk'
        exact h.apart p q k hp hq hk hk'

/-- A try has ended. -/
theorem Opn.del (h : Opn B W om N G Fo) (th : Int) (hm : MapG Try.prog 3 (Value.int .i64) W' om N (upd (fun th => (G th).map ptrV) th none)) (g : W.grownBy W' (some om)) :
    Opn B W' om N (updG G th none) Fo := by
  have back : ∀ p, updG G th none p ≠ none → p ≠ th ∧ G p ≠ none := fun p hp => by
    by_cases hx : p = th
    · subst hx
      rw [updG_same] at hp
      exact absurd rfl hp
    · rw [updG_other _ _ hx] at hp
      exact ⟨hx, hp⟩
  refine ⟨hm.congr (fun x _ _ => ?_), fun p b' t'' hp => ?_, fun p k hp hk => ?_, fun p q k hp hq hk hk' => h.apart p q k (back p hp).2 (back q hq).2 hk hk', h.om_le⟩
  · by_cases hx : x = th
    · subst hx
      rw [updG_same, upd_same]
      rfl
    · rw [updG_other _ _ hx, upd_other _ _ hx]
  · have h1 := back p (by rw [hp]; simp)
    rw [updG_other _ _ h1.1] at hp
    exact (h.gng p b' t'' hp).keep (fun k hk => by
      have h2 := h.lt p k h1.2 hk
      exact g.block k h2.2.1 (by simp; exact h2.2.2))
  · have h2 := h.lt p k (back p hp).2 hk
    exact ⟨h2.1, Nat.lt_of_lt_of_le h2.2.1 g.size, h2.2.2⟩
end
end Go.Proofs.Ytdohepenmejcaaa.hs
