/- Texts of one's own, one behind the other: HgB, Ho, Hj, Hk, HmR, Hi, Rf, HrM, HrB, HrC, Ht, Hs, HtW, Hc, Mi, Rr, Ms, Mv, Mb, OpenB, Mo, Na. -/
import Derived.Test.YtdohepenmejcaaaProg
import Derived.Test.YtdohepenmejcaaaRuns1
import Derived.Maps.RangeWalk
import Derived.Maps.OwnIn
import Derived.RangeFuncNested
import Derived.RangeFuncCalls
import Derived.RangeFuncLeaves
import Derived.Shelf.Abstract
import Derived.Shelf.RegionOpen
import Derived.OwnWalkIn
import Derived.TacticsInMore
import Derived.LoopNIn
import Derived.LoopIn
import Derived.RegionIn
import Derived.WalkKit
import Derived.IntWalk
import Derived.Maps.AppendAt
import Derived.Shelf.SlSortCmp.WholeK
import Derived.Shelf.SlSortCmp.NoneTotal
import Derived.Shelf.SlicesG.Cmp
import Derived.Shelf.AbstractIn
import Derived.OrdersIn
import Derived.Deep.QuietTactic
import Derived.BigQuiet
import Derived.ChangeArms
/- A try begins: hist's begun. -/
namespace Go.Proofs.Ytdohepenmejcaaa.hs
open Go Go.RowKit Go.Proofs.Ytdohepenmejcaaa.base Go.Maps
set_option linter.unusedVariables false
set_option maxRecDepth 100000

set_option maxHeartbeats 1000000 in
theorem begun_any (pl : Nat) (e : Ev) (w : World) :
    Calls Try.prog 55 #[.int .i64 pl, .agg #[.int .i64 e.k, .int .i64 e.th, .int .i64 e.tx, .int .i64 e.at_, .int .i64 e.ob, .int .i64 e.va, .int .i64 e.re]] w fun r w' => ∃ b, r = .returned (.pointer (some ⟨b, 0, none⟩)) ∧ Hid (Gng w' (fun k => w.heap.size ≤ k ∧ k < w'.heap.size) b (init pl e) (fun _ => false) (fun _ => []) 0) ∧ Hid (w.grownBy w' none) := by
  have hmm := @run_makeMap Try.prog
  go_enter Try.func55, Try.ntmps55
  go_wp2
  go_ret
  have G : w.grownBy (((((w.alloc (.cells #[.int .i64 e.k, .int .i64 e.th, .int .i64 e.tx, .int .i64 e.at_, .int .i64 e.ob, .int .i64 e.va, .int .i64 e.re] 58)).alloc (.cells #[.int .i64 e.th, .int .i64 e.tx, .int .i64 e.at_, .int .i64 e.va, .int .i64 pl, .int .i64 (-1), .int .i64 0, .bool false, .slice none 0 0] 33)).alloc (.map #[] 0)).alloc (.map #[] 0)).alloc (.cells #[.int .i64 e.th, .int .i64 e.tx, .int .i64 e.at_, .int .i64 e.va, .int .i64 pl, .int .i64 (-1), .int .i64 0, .bool false, .slice none 0 0, .map (some (w.heap.size + 2)), .map (some (w.heap.size + 3))] 124)) none := (by repeat (first | exact gb_refl _ _ | refine gb_drewN ?_ _ | refine gb_drew ?_ | refine gb_alloc ?_ _))
  refine ⟨w.heap.size + 4, rfl, ⟨.slice none 0 0, w.heap.size + 2, w.heap.size + 3, fun _ => none, ?_, ?_, ?_, ?_, fun _ _ => rfl, by simp, by omega, by simp, by simp, by simp [Value.ownBlock], by simp, by simp, by simp⟩, G⟩
  · have := Blk.made ((((w.alloc (.cells #[.int .i64 e.k, .int .i64 e.th, .int .i64 e.tx, .int .i64 e.at_, .int .i64 e.ob, .int .i64 e.va, .int .i64 e.re] 58)).alloc (.cells #[.int .i64 e.th, .int .i64 e.tx, .int .i64 e.at_, .int .i64 e.va, .int .i64 pl, .int .i64 (-1), .int .i64 0, .bool false, .slice none 0 0] 33)).alloc (.map #[] 0)).alloc (.map #[] 0)) 124 #[.int .i64 e.th, .int .i64 e.tx, .int .i64 e.at_, .int .i64 e.va, .int .i64 pl, .int .i64 (-1), .int .i64 0, .bool false, .slice none 0 0, .map (some (w.heap.size + 2)), .map (some (w.heap.size + 3))]
    simp only [World.size_alloc] at this
    exact this
  · exact World.ownsRow_nil _ _ _ _
  · have := (MapG.made ((w.alloc (.cells #[.int .i64 e.k, .int .i64 e.th, .int .i64 e.tx, .int .i64 e.at_, .int .i64 e.ob, .int .i64 e.va, .int .i64 e.re] 58)).alloc (.cells #[.int .i64 e.th, .int .i64 e.tx, .int .i64 e.at_, .int .i64 e.va, .int .i64 pl, .int .i64 (-1), .int .i64 0, .bool false, .slice none 0 0] 33)) Try.prog 3 (Value.int .i64)).grown (w' := (((((w.alloc (.cells #[.int .i64 e.k, .int .i64 e.th, .int .i64 e.tx, .int .i64 e.at_, .int .i64 e.ob, .int .i64 e.va, .int .i64 e.re] 58)).alloc (.cells #[.int .i64 e.th, .int .i64 e.tx, .int .i64 e.at_, .int .i64 e.va, .int .i64 pl, .int .i64 (-1), .int .i64 0, .bool false, .slice none 0 0] 33)).alloc (.map #[] 0)).alloc (.map #[] 0)).alloc (.cells #[.int .i64 e.th, .int .i64 e.tx, .int .i64 e.at_, .int .i64 e.va, .int .i64 pl, .int .i64 (-1), .int .i64 0, .bool false, .slice none 0 0, .map (some (w.heap.size + 2)), .map (some (w.heap.size + 3))] 124))) (r := none) (by repeat (first | exact gb_refl _ _ | refine gb_drewN ?_ _ | refine gb_drew ?_ | refine gb_alloc ?_ _)) (by simp)
    simp only [World.size_alloc] at this
    exact this.congr (fun x kl _ => by simp [wroteV])
  · have := (MapG.made (((w.alloc (.cells #[.int .i64 e.k, .int .i64 e.th, .int .i64 e.tx, .int .i64 e.at_, .int .i64 e.ob, .int .i64 e.va, .int .i64 e.re] 58)).alloc (.cells #[.int .i64 e.th, .int .i64 e.tx, .int .i64 e.at_, .int .i64 e.va, .int .i64 pl, .int .i64 (-1), .int .i64 0, .bool false, .slice none 0 0] 33)).alloc (.map #[] 0)) Try.prog 3 (Value.int .i64)).grown (w' := (((((w.alloc (.cells #[.int .i64 e.k, .int .i64 e.th, .int .i64 e.tx, .int .i64 e.at_, .int .i64 e.ob, .int .i64 e.va, .int .i64 e.re] 58)).alloc (.cells #[.int .i64 e.th, .int .i64 e.tx, .int .i64 e.at_, .int .i64 e.va, .int .i64 pl, .int .i64 (-1), .int .i64 0, .bool false, .slice none 0 0] 33)).alloc (.map #[] 0)).alloc (.map #[] 0)).alloc (.cells #[.int .i64 e.th, .int .i64 e.tx, .int .i64 e.at_, .int .i64 e.va, .int .i64 pl, .int .i64 (-1), .int .i64 0, .bool false, .slice none 0 0, .map (some (w.heap.size + 2)), .map (some (w.heap.size + 3))] 124))) (r := none) (by repeat (first | exact gb_refl _ _ | refine gb_drewN ?_ _ | refine gb_drew ?_ | refine gb_alloc ?_ _)) (by simp)
    simp only [World.size_alloc] at this
    exact this
end Go.Proofs.Ytdohepenmejcaaa.hs

/- The tries that go on, by their threads: hist's map of them. -/
namespace Go.Proofs.Ytdohepenmejcaaa.hs
open Go Go.RowKit Go.Proofs.Ytdohepenmejcaaa.base Go.Maps
set_option linter.unusedVariables false
set_option maxRecDepth 100000

theorem does_any (w : World) (F : Nat → Prop) (b : Nat) (t : Tr) (N : Nat) (pl : Nat) (e : Ev) (he : Ev.Wf e) (hk : 2 ≤ e.k ∧ e.k ≤ 6) (hF : ∀ k, F k → k < w.heap.size) (h : Gng w F b t (wrote t.ac) (readsF t.ac) N) (hen : t.en = -1) (hm : t.ac.length < 100000) (hN : N < 100000) :
    Calls Try.prog 56 #[.pointer (some ⟨b, 0, none⟩), .int .i64 pl, .agg #[.int .i64 e.k, .int .i64 e.th, .int .i64 e.tx, .int .i64 e.at_, .int .i64 e.ob, .int .i64 e.va, .int .i64 e.re]] w fun r w' => r = .returned (.bool (decide (e.k = 5 ∨ e.k = 6))) ∧ Hid (Gng w' (Up F w w') b (base.stepT t pl e) (wrote (base.stepT t pl e).ac) (readsF (base.stepT t pl e).ac) (N + 1)) ∧ Hid (Only F w w') := by
  obtain ⟨k, th, tx, at_, ob, va, re⟩ := e
  have hk2 : k = 2 ∨ k = 3 ∨ k = 4 ∨ k = 5 ∨ k = 6 := by dsimp only at hk; omega
  rcases hk2 with rfl | rfl | rfl | rfl | rfl
  · exact does_read w F b t N pl th tx at_ ob va re he.ob hF h hen hm hN
  · exact does_write w F b t N pl th tx at_ ob va re he.ob hF h hen hm hN
  · exact does_release w F b t N pl th tx at_ ob va re he.ob hF h hen hm hN
  · exact does_commit w F b t N pl th tx at_ ob va re he.ob hF h hen hm hN
  · exact does_abort w F b t N pl th tx at_ ob va re he.ob hF h hen hm hN

def ptrV (x : Nat × Tr) : Value := .pointer (some ⟨x.1, 0, none⟩)

/-- Block om is the map of the tries that go on: G says for each thread in which block its try lies, and what it is; it lies in the blocks of Fo; all from block B on. -/
structure Opn (B : Nat) (W : World) (om N : Nat) (G : Int → Option (Nat × Tr)) (Fo : Int → Nat → Prop) : Prop where
  map : MapG Try.prog 3 (Value.int .i64) W om N (fun th => (G th).map ptrV)
  gng : ∀ th b t, G th = some (b, t) → Gng W (Fo th) b t (wrote t.ac) (readsF t.ac) N
  lt : ∀ th k, G th ≠ none → Fo th k → B ≤ k ∧ k < W.heap.size ∧ k ≠ om
  apart : ∀ th th' k, G th ≠ none → G th' ≠ none → Fo th k → Fo th' k → th = th'
  om_le : B ≤ om

/-- The blocks of all of it. -/
def OpnF (om : Nat) (G : Int → Option (Nat × Tr)) (Fo : Int → Nat → Prop) : Nat → Prop := fun k => k = om ∨ ∃ th, G th ≠ none ∧ Fo th k

open Classical in
noncomputable def updG (G : Int → Option (Nat × Tr)) (th : Int) (x : Option (Nat × Tr)) : Int → Option (Nat × Tr) := fun p => if p = th then x else G p
open Classical in
noncomputable def updFo (Fo : Int → Nat → Prop) (th : Int) (F : Nat → Prop) : Int → Nat → Prop := fun p => if p = th then F else Fo p
theorem updG_same (G : Int → Option (Nat × Tr)) (th : Int) (x : Option (Nat × Tr)) : updG G th x th = x := by simp [updG]
theorem updG_other (G : Int → Option (Nat × Tr)) {th p : Int} (x : Option (Nat × Tr)) (h : p ≠ th) : updG G th x p = G p := by simp [updG, h]
theorem updFo_same (Fo : Int → Nat → Prop) (th : Int) (F : Nat → Prop) : updFo Fo th F th = F := by simp [updFo]
theorem updFo_other (Fo : Int → Nat → Prop) {th p : Int} (F : Nat → Prop) (h : p ≠ th) : updFo Fo th F p = Fo p := by simp [updFo, h]

section
variable {B : Nat} {W W' : World} {om N : Nat} {G : Int → Option (Nat × Tr)} {Fo : Int → Nat → Prop}
theorem Opn.frame (h : Opn B W om N G Fo) (hk : ∀ k, OpnF om G Fo k → W'.heap[k]? = W.heap[k]?) (hs : W.heap.size ≤ W'.heap.size) : Opn B W' om N G Fo :=
  ⟨h.map.keep (hk _ (.inl rfl)), fun th b t e => (h.gng th b t e).keep (fun k hF => hk _ (.inr ⟨th, by rw [e]; simp, hF⟩)), fun th k e hF => ⟨(h.lt th k e hF).1, Nat.lt_of_lt_of_le (h.lt th k e hF).2.1 hs, (h.lt th k e hF).2.2⟩, h.apart, h.om_le⟩
theorem Opn.grown (h : Opn B W om N G Fo) (g : W.grownBy W' none) : Opn B W' om N G Fo :=
  h.frame (fun k hk => g.block k (by rcases hk with rfl | ⟨th, h1, h2⟩; exact h.map.lt; exact (h.lt th k h1 h2).2.1) (by simp)) g.size
theorem Opn.more (h : Opn B W om N G Fo) : Opn B W om (N + 1) G Fo :=
  ⟨h.map.more (Nat.le_succ _), fun th b t e => (h.gng th b t e).more (fun _ h => h), h.lt, h.apart, h.om_le⟩
theorem OpnF.lt (h : Opn B W om N G Fo) {k : Nat} (hk : OpnF om G Fo k) : B ≤ k ∧ k < W.heap.size := by
  rcases hk with rfl | ⟨th, h1, h2⟩
  · exact ⟨h.om_le, h.map.lt⟩
  · exact ⟨(h.lt th k h1 h2).1, (h.lt th k h1 h2).2.1⟩

/-- An event of a try that goes on. -/
theorem Opn.step (h : Opn B W om N G Fo) {th : Int} {b : Nat} {t t' : Tr} (e : G th = some (b, t)) (hg : Gng W' (Up (Fo th) W W') b t' (wrote t'.ac) (readsF t'.ac) (N + 1)) (ho : Only (Fo th) W W') (hB : B ≤ W.heap.size) :
    Opn B W' om (N + 1) (updG G th (some (b, t'))) (updFo Fo th (Up (Fo th) W W')) := by
  have hne : G th ≠ none := by rw [e]; simp
  have hold : ∀ p k, p ≠ th → G p ≠ none → Fo p k → ¬ Fo th k := fun p k hp h1 h2 h3 => hp (h.apart p th k h1 hne h2 h3)
  refine ⟨((h.map.keep (ho.block _ h.map.lt (fun h1 => (h.lt th om hne h1).2.2 rfl))).more (Nat.le_succ _)).congr (fun x _ _ => ?_), fun p b' t'' hp => ?_, fun p k hp hk => ?_, fun p q k hp hq hk hk' => ?_, h.om_le⟩
  · by_cases hx : x = th
    · subst hx
      rw [updG_same, e]
      rfl
    · rw [updG_other _ _ hx]
  · by_cases hx : p = th
    · subst hx
      rw [updG_same] at hp
      cases hp
      rw [updFo_same]
      exact hg
    · rw [updG_other _ _ hx] at hp
      rw [updFo_other _ _ hx]
      exact ((h.gng p b' t'' hp).keep (fun k hk => ho.block k (h.lt p k (by rw [hp]; simp) hk).2.1 (hold p k hx (by rw [hp]; simp) hk))).more (fun _ h => h)
  · by_cases hx : p = th
    · subst hx
      rw [updFo_same] at hk
      have := h.map.lt
      rcases hk with hk | hk
      · have := h.lt p k hne hk
        exact ⟨this.1, Nat.lt_of_lt_of_le this.2.1 ho.size, this.2.2⟩
      · exact ⟨by omega, hk.2, by omega⟩
    · rw [updG_other _ _ hx] at hp
      rw [updFo_other _ _ hx] at hk
      have := h.lt p k hp hk
      exact ⟨this.1, Nat.lt_of_lt_of_le this.2.1 ho.size, this.2.2⟩
  · by_cases hx : p = th
    · by_cases hy : q = th
      · rw [hx, hy]
      · subst hx
        rw [updFo_same] at hk
        rw [updG_other _ _ hy] at hq
        rw [updFo_other _ _ hy] at hk'
        rcases hk with hk | hk
        · exact absurd hk (hold q k hy hq hk')
        · have := h.lt q k hq hk'
          omega
    · rw [updG_other _ _ hx] at hp
      rw [updFo_other _ _ hx] at hk
      by_cases hy : q = th
      · subst hy
        rw [updFo_same] at hk'
        rcases hk' with hk' | hk'
        · exact absurd hk' (hold p k hx hp hk)
        · have := h.lt p k hp hk
          omega
      · rw [updG_other _ _ hy] at hq
        rw [updFo_other _ _ hy] at hk'
        exact h.apart p q k hp hq hk hk'

/-- A try begins. -/
theorem Opn.put {W'' : World} (h : Opn B W om N G Fo) (th : Int) {b : Nat} {t : Tr} {Fn : Nat → Prop} (g : W.grownBy W' none) (hg : Gng W' Fn b t (wrote t.ac) (readsF t.ac) 0) (hn : ∀ k, Fn k → W.heap.size ≤ k ∧ k < W'.heap.size) (hB : B ≤ W.heap.size)
    (hm : MapG Try.prog 3 (Value.int .i64) W'' om (N + 1) (upd (fun th => (G th).map ptrV) th (some (ptrV (b, t))))) (g2 : W'.grownBy W'' (some om)) :
    Opn B W'' om (N + 1) (updG G th (some (b, t))) (updFo Fo th Fn) := by
  have hl := h.map.lt
  have keepN : ∀ {F : Nat → Prop} {b : Nat} {t : Tr} {Wf : Int → Bool} {R : Int → List Nat} (m : Nat), Gng W'' F b t Wf R 0 → Gng W'' F b t Wf R m := fun m => by
    induction m with
    | zero => exact fun h => h
    | succ m ih => exact fun h => (ih h).more (fun _ h => h)
  refine ⟨hm.congr (fun x _ _ => ?_), fun p b' t'' hp => ?_, fun p k hp hk => ?_, fun p q k hp hq hk hk' => ?_, h.om_le⟩
  · by_cases hx : x = th
    · subst hx
      rw [updG_same, upd_same]
      rfl
    · rw [updG_other _ _ hx, upd_other _ _ hx]
  · by_cases hx : p = th
    · subst hx
      rw [updG_same] at hp
      cases hp
      rw [updFo_same]
      exact keepN _ (hg.keep (fun k hk => g2.block k (hn k hk).2 (by have := hn k hk; simp; omega)))
    · rw [updG_other _ _ hx] at hp
      rw [updFo_other _ _ hx]
      exact ((h.gng p b' t'' hp).keep (fun k hk => by
        have h1 := h.lt p k (by rw [hp]; simp) hk
        exact (g2.block k (Nat.lt_of_lt_of_le h1.2.1 g.size) (by simp; exact h1.2.2)).trans (g.block k h1.2.1 (by simp)))).more (fun _ h => h)
  · have hsz := g2.size
    have hsz1 := g.size
    by_cases hx : p = th
    · subst hx
      rw [updFo_same] at hk
      have := hn k hk
      exact ⟨by omega, by omega, by omega⟩
    · rw [updG_other _ _ hx] at hp
      rw [updFo_other _ _ hx] at hk
      have := h.lt p k hp hk
      exact ⟨this.1, by omega, this.2.2⟩
  · by_cases hx : p = th
    · by_cases hy : q = th
      · rw [hx, hy]
      · subst hx
        rw [updFo_same] at hk
        rw [updG_other _ _ hy] at hq
        rw [updFo_other _ _ hy] at hk'
        have := h.lt q k hq hk'
        have := hn k hk
        omega
    · rw [updG_other _ _ hx] at hp
      rw [updFo_other _ _ hx] at hk
      by_cases hy : q = th
      · subst hy
        rw [updFo_same] at hk'
        have := h.lt p k hp hk
        have := hn k hk'
        omega
      · rw [updG_other _ _ hy] at hq
        rw [updFo_other _ _ hy] at hk'
        exact h.apart p q k hp hq hk hk'

/-- A try has ended. -/
theorem Opn.del (h : Opn B W om N G Fo) (th : Int) (hm : MapG Try.prog 3 (Value.int .i64) W' om N (upd (fun th => (G th).map ptrV) th none)) (g : W.grownBy W' (some om)) :
    Opn B W' om N (updG G th none) Fo := by
  have back : ∀ p, updG G th none p ≠ none → p ≠ th ∧ G p ≠ none := fun p hp => by
    by_cases hx : p = th
    · subst hx
      rw [updG_same] at hp
      exact absurd rfl hp
    · rw [updG_other _ _ hx] at hp
      exact ⟨hx, hp⟩
  refine ⟨hm.congr (fun x _ _ => ?_), fun p b' t'' hp => ?_, fun p k hp hk => ?_, fun p q k hp hq hk hk' => h.apart p q k (back p hp).2 (back q hq).2 hk hk', h.om_le⟩
  · by_cases hx : x = th
    · subst hx
      rw [updG_same, upd_same]
      rfl
    · rw [updG_other _ _ hx, upd_other _ _ hx]
  · have h1 := back p (by rw [hp]; simp)
    rw [updG_other _ _ h1.1] at hp
    exact (h.gng p b' t'' hp).keep (fun k hk => by
      have h2 := h.lt p k h1.2 hk
      exact g.block k h2.2.1 (by simp; exact h2.2.2))
  · have h2 := h.lt p k (back p hp).2 hk
    exact ⟨h2.1, Nat.lt_of_lt_of_le h2.2.1 g.size, h2.2.2⟩
end
end Go.Proofs.Ytdohepenmejcaaa.hs

/- What stands at the head of each round of the loop over a trace's events, one event on. -/
namespace Go.Proofs.Ytdohepenmejcaaa.hs
open Go Go.RowKit Go.Proofs.Ytdohepenmejcaaa.base Go.Maps
set_option linter.unusedVariables false
set_option maxRecDepth 100000

/-- At the head of the first loop's round. -/
def Rel1 (w0 : World) (om len : Nat) (e : Evs) (J : List (Tr × Value) → World → (Nat → Prop) → Prop) (i : Nat) (wr : World) (G : Int → Option (Nat × Tr)) (Fo : Int → Nat → Prop) (Fc : Nat → Prop) (xs : List (Tr × Value)) : Prop :=
  Opn w0.heap.size wr om i G Fo ∧ (∀ th, (G th).map Prod.snd = (opn e i th).map (fun b => trAt e b i)) ∧ J xs wr Fc ∧ xs.map Prod.fst = (ended e i).map (fun b => trAt e b len) ∧ (∀ k, Fc k → ¬ OpnF om G Fo k) ∧ (∀ k, Fc k → w0.heap.size ≤ k ∧ k < wr.heap.size) ∧ Below w0.heap.size w0 wr

def Firm2 (J : List (Tr × Value) → World → (Nat → Prop) → Prop) : Prop := ∀ pre W W' Fc, J pre W Fc → (∀ k, Fc k → W'.heap[k]? = W.heap[k]?) → J pre W' Fc

section
variable {w0 wr v1 u1 u2 : World} {om len i : Nat} {e : Evs} {J : List (Tr × Value) → World → (Nat → Prop) → Prop} {G : Int → Option (Nat × Tr)} {Fo : Int → Nat → Prop} {Fc : Nat → Prop} {xs : List (Tr × Value)}


/-- What is done beside all of it. -/
theorem Rel1.grown (h : Rel1 w0 om len e J i wr G Fo Fc xs) (firm : Firm2 J) (g : wr.grownBy v1 none) : Rel1 w0 om len e J i v1 G Fo Fc xs := by
  obtain ⟨h1, h2, h3, h4, h5, h6, h7⟩ := h
  exact ⟨h1.grown g, h2, firm _ _ _ _ h3 (fun k hk => g.block k (h6 k hk).2 (by simp)), h4, h5, fun k hk => ⟨(h6 k hk).1, Nat.lt_of_lt_of_le (h6 k hk).2 g.size⟩, bl_none h7 g⟩

/-- An event of no try that goes on, that begins none. -/
theorem rel1_skip (h : Rel1 w0 om len e J i wr G Fo Fc xs) (ho : opn e i (e i).th = none) (h1 : (e i).k ≠ 1) : Rel1 w0 om len e J (i + 1) wr G Fo Fc xs := by
  obtain ⟨r1, r2, r3, r4, r5, r6, r7⟩ := h
  refine ⟨r1.more, fun th => ?_, r3, ?_, r5, r6, r7⟩
  · rw [r2 th]
    have hop : opn e (i + 1) th = opn e i th := by
      rw [opn]
      by_cases hth : (e i).th = th
      · subst hth
        rw [if_pos rfl, if_neg h1, ho]
        split <;> rfl
      · rw [if_neg hth]
    rw [hop]
    cases hb : opn e i th with
    | none => rfl
    | some b =>
      have hth : (e i).th ≠ th := fun e1 => by rw [e1, hb] at ho; cases ho
      simp only [Option.map_some]
      rw [trAt_other e hb hth]
  · rw [r4, ended, ho]

/-- A try begins. -/
theorem rel1_put (h : Rel1 w0 om len e J i v1 G Fo Fc xs) (firm : Firm2 J) (ho : opn e i (e i).th = none) (h1 : (e i).k = 1) {bn : Nat} {ev : Ev} (hev : init i ev = init i (e i)) (g : v1.grownBy u1 none)
    (hg : Gng u1 (fun k => v1.heap.size ≤ k ∧ k < u1.heap.size) bn (init i ev) (fun _ => false) (fun _ => []) 0) (hm : MapG Try.prog 3 (Value.int .i64) u2 om (i + 1) (upd (fun th => (G th).map ptrV) (e i).th (some (.pointer (some ⟨bn, 0, none⟩))))) (g2 : u1.grownBy u2 (some om)) :
    ∃ G' Fo', Rel1 w0 om len e J (i + 1) u2 G' Fo' Fc xs := by
  obtain ⟨r1, r2, r3, r4, r5, r6, r7⟩ := h
  have hom := r1.map.lt
  have P := r1.put (e i).th (W'' := u2) (t := init i ev) g hg (fun k hk => hk) r7.size hm g2
  refine ⟨_, _, P, fun th => ?_, firm _ _ _ _ r3 (fun k hk => ?_), ?_, fun k hk hO => ?_, fun k hk => ⟨(r6 k hk).1, ?_⟩, ?_⟩
  · by_cases hth : th = (e i).th
    · subst hth
      rw [updG_same, opn, if_pos rfl, if_pos h1]
      simp only [Option.map_some]
      rw [trAt_init e i (i + 1) (Nat.le_refl _), hev]
    · rw [updG_other _ _ hth, r2 th, opn, if_neg (fun e1 => hth e1.symm)]
      cases hb : opn e i th with
      | none => rfl
      | some b =>
        simp only [Option.map_some]
        rw [trAt_other e hb (fun e1 => hth e1.symm)]
  · have hl := (r6 k hk).2
    exact (g2.block k (Nat.lt_of_lt_of_le hl g.size) (by simp; exact fun e1 => r5 k hk (.inl e1))).trans (g.block k hl (by simp))
  · rw [r4, ended, ho]
  · rcases hO with hO | ⟨th, hn, hF⟩
    · exact r5 k hk (.inl hO)
    · by_cases hth : th = (e i).th
      · subst hth
        rw [updFo_same] at hF
        have := (r6 k hk).2
        omega
      · rw [updG_other _ _ hth] at hn
        rw [updFo_other _ _ hth] at hF
        exact r5 k hk (.inr ⟨th, hn, hF⟩)
  · exact Nat.lt_of_lt_of_le (Nat.lt_of_lt_of_le (r6 k hk).2 g.size) g2.size
  · exact (bl_none r7 g).grown g2 (Nat.le_trans r7.size g.size) (fun k e1 => by cases e1; exact r1.om_le)

theorem G_of (h : Rel1 w0 om len e J i wr G Fo Fc xs) {th : Int} {b : Nat} (ho : opn e i th = some b) : ∃ bk, G th = some (bk, trAt e b i) := by
  have := h.2.1 th
  rw [ho] at this
  cases hG : G th with
  | none => rw [hG] at this; cases this
  | some x =>
    obtain ⟨bk, t⟩ := x
    rw [hG] at this
    simp only [Option.map_some, Option.some.injEq] at this
    exact ⟨bk, by rw [this]⟩
theorem G_no (h : Rel1 w0 om len e J i wr G Fo Fc xs) {th : Int} (ho : opn e i th = none) : G th = none := by
  have := h.2.1 th
  rw [ho] at this
  cases hG : G th with
  | none => rfl
  | some x => rw [hG] at this; cases this

/-- An event of a try that goes on, that doesn't end it. -/
theorem rel1_does (h : Rel1 w0 om len e J i v1 G Fo Fc xs) (firm : Firm2 J) {b bk : Nat} (ho : opn e i (e i).th = some b) (hG : G (e i).th = some (bk, trAt e b i)) (h1 : (e i).k ≠ 1) (h56 : ¬ ((e i).k = 5 ∨ (e i).k = 6))
    (hg : Gng u1 (Up (Fo (e i).th) v1 u1) bk (base.stepT (trAt e b i) i (e i)) (wrote (base.stepT (trAt e b i) i (e i)).ac) (readsF (base.stepT (trAt e b i) i (e i)).ac) (i + 1)) (go : Only (Fo (e i).th) v1 u1) :
    ∃ G' Fo', Rel1 w0 om len e J (i + 1) u1 G' Fo' Fc xs := by
  obtain ⟨r1, r2, r3, r4, r5, r6, r7⟩ := h
  have hne : G (e i).th ≠ none := by rw [hG]; simp
  have P := r1.step hG hg go r7.size
  refine ⟨_, _, P, fun th => ?_, firm _ _ _ _ r3 (fun k hk => go.block k (r6 k hk).2 (fun hF => r5 k hk (.inr ⟨_, hne, hF⟩))), ?_, fun k hk hO => ?_, fun k hk => ⟨(r6 k hk).1, Nat.lt_of_lt_of_le (r6 k hk).2 go.size⟩, go.below r7 r7.size (fun k hF => (r1.lt _ k hne hF).1)⟩
  · by_cases hth : th = (e i).th
    · subst hth
      rw [updG_same, opn, if_pos rfl, if_neg h1, if_neg h56, ho]
      simp only [Option.map_some]
      rw [trAt_step e ho]
    · rw [updG_other _ _ hth, r2 th, opn, if_neg (fun e1 => hth e1.symm)]
      cases hb : opn e i th with
      | none => rfl
      | some b =>
        simp only [Option.map_some]
        rw [trAt_other e hb (fun e1 => hth e1.symm)]
  · rw [r4, ended, ho]
    simp only [if_neg h56]
  · rcases hO with hO | ⟨th, hn, hF⟩
    · exact r5 k hk (.inl hO)
    · by_cases hth : th = (e i).th
      · subst hth
        rw [updFo_same] at hF
        rcases hF with hF | hF
        · exact r5 k hk (.inr ⟨_, hne, hF⟩)
        · have := (r6 k hk).2
          omega
      · rw [updG_other _ _ hth] at hn
        rw [updFo_other _ _ hth] at hF
        exact r5 k hk (.inr ⟨th, hn, hF⟩)

/-- What stands when a try has ended, and is no more in the map. -/
def Mid (w0 : World) (om len : Nat) (e : Evs) (J : List (Tr × Value) → World → (Nat → Prop) → Prop) (i : Nat) (th : Int) (wr : World) (G : Int → Option (Nat × Tr)) (Fo : Int → Nat → Prop) (Fc : Nat → Prop) (xs : List (Tr × Value)) : Prop :=
  Opn w0.heap.size wr om (i + 1) G Fo ∧ (∀ th, (G th).map Prod.snd = (opn e (i + 1) th).map (fun b => trAt e b (i + 1))) ∧ J xs wr Fc ∧ xs.map Prod.fst = (ended e i).map (fun b => trAt e b len) ∧ (∀ k, Fc k → ¬ OpnF om G Fo k) ∧ (∀ k, Fc k → w0.heap.size ≤ k ∧ k < wr.heap.size) ∧ Below w0.heap.size w0 wr ∧ G th = none ∧ (∀ k, Fo th k → ¬ Fc k ∧ w0.heap.size ≤ k ∧ k < wr.heap.size ∧ ¬ OpnF om G Fo k)

theorem rel1_mid (h : Rel1 w0 om len e J i v1 G Fo Fc xs) (firm : Firm2 J) {b bk : Nat} (ho : opn e i (e i).th = some b) (hG : G (e i).th = some (bk, trAt e b i)) (h56 : (e i).k = 5 ∨ (e i).k = 6)
    (hg : Gng u1 (Up (Fo (e i).th) v1 u1) bk (base.stepT (trAt e b i) i (e i)) (wrote (base.stepT (trAt e b i) i (e i)).ac) (readsF (base.stepT (trAt e b i) i (e i)).ac) (i + 1)) (go : Only (Fo (e i).th) v1 u1)
    (hm : MapG Try.prog 3 (Value.int .i64) u2 om (i + 1) (upd (fun th => (G th).map ptrV) (e i).th none)) (g2 : u1.grownBy u2 (some om)) :
    ∃ G' Fo', Mid w0 om len e J i (e i).th u2 G' Fo' Fc xs ∧ Fo' (e i).th = Up (Fo (e i).th) v1 u1 ∧ Gng u2 (Up (Fo (e i).th) v1 u1) bk (trAt e b (i + 1)) (wrote (trAt e b (i + 1)).ac) (readsF (trAt e b (i + 1)).ac) (i + 1) := by
  obtain ⟨r1, r2, r3, r4, r5, r6, r7⟩ := h
  have h1 : (e i).k ≠ 1 := by rcases h56 with h | h <;> omega
  have hne : G (e i).th ≠ none := by rw [hG]; simp
  have hom := r1.map.lt
  have P := r1.step hG hg go r7.size
  have hup : ∀ k, Up (Fo (e i).th) v1 u1 k → k ≠ om ∧ k < u1.heap.size ∧ w0.heap.size ≤ k ∧ ¬ Fc k := fun k hk => by
    have hB := r7.size
    rcases hk with hk | hk
    · have := r1.lt _ k hne hk
      exact ⟨this.2.2, Nat.lt_of_lt_of_le this.2.1 go.size, this.1, fun hc => r5 k hc (.inr ⟨_, hne, hk⟩)⟩
    · exact ⟨by omega, hk.2, by omega, fun hc => by have := (r6 k hc).2; omega⟩
  have D := P.del (e i).th (W' := u2) (hm.congr (fun x _ _ => by
    by_cases hx : x = (e i).th
    · subst hx
      rw [upd_same, upd_same]
    · rw [upd_other _ _ hx, upd_other _ _ hx, updG_other _ _ hx])) g2
  have hs1 := go.size
  have hs2 := g2.size
  refine ⟨_, _, ⟨D, fun th => ?_, firm _ _ _ _ r3 (fun k hk => ?_), r4, fun k hk hO => ?_, fun k hk => ⟨(r6 k hk).1, by have := (r6 k hk).2; omega⟩, (go.below r7 r7.size (fun k hF => (r1.lt _ k hne hF).1)).grown g2 (by have := r7.size; omega) (fun k e1 => by cases e1; exact r1.om_le), updG_same _ _ _, fun k hk => ?_⟩, updFo_same _ _ _, ?_⟩
  · by_cases hth : th = (e i).th
    · subst hth
      rw [updG_same, opn, if_pos rfl, if_neg h1, if_pos h56]
      rfl
    · rw [updG_other _ _ hth, updG_other _ _ hth, r2 th, opn, if_neg (fun e1 => hth e1.symm)]
      cases hb : opn e i th with
      | none => rfl
      | some b =>
        simp only [Option.map_some]
        rw [trAt_other e hb (fun e1 => hth e1.symm)]
  · have hl := (r6 k hk).2
    exact (g2.block k (Nat.lt_of_lt_of_le hl go.size) (by simp; exact fun e1 => r5 k hk (.inl e1))).trans (go.block k hl (fun hF => r5 k hk (.inr ⟨_, hne, hF⟩)))
  · rcases hO with hO | ⟨th, hn, hF⟩
    · exact r5 k hk (.inl hO)
    · by_cases hth : th = (e i).th
      · subst hth
        rw [updG_same] at hn
        exact hn rfl
      · rw [updG_other _ _ hth, updG_other _ _ hth] at hn
        rw [updFo_other _ _ hth] at hF
        exact r5 k hk (.inr ⟨th, hn, hF⟩)
  · rw [updFo_same] at hk
    obtain ⟨q1, q2, q3, q4⟩ := hup k hk
    refine ⟨q4, q3, by omega, fun hO => ?_⟩
    rcases hO with hO | ⟨th, hn, hF⟩
    · exact q1 hO
    · by_cases hth : th = (e i).th
      · subst hth
        rw [updG_same] at hn
        exact hn rfl
      · rw [updG_other _ _ hth, updG_other _ _ hth] at hn
        rw [updFo_other _ _ hth] at hF
        have h3 := r1.lt th k hn hF
        rcases hk with hk | hk
        · exact hth (r1.apart th _ k hn hne hF hk)
        · omega
  · rw [trAt_step e ho]
    exact hg.keep (fun k hk => g2.block k (hup k hk).2.1 (by simp; exact (hup k hk).1))

/-- The try has been told. -/
theorem mid_rel1 (h : Mid w0 om len e J i (e i).th u1 G Fo Fc xs) {b : Nat} (ho : opn e i (e i).th = some b) (h56 : (e i).k = 5 ∨ (e i).k = 6) (hi : i < len) {v : Value} {Fc' : Nat → Prop} (hJ : J (xs ++ [(trAt e b (i + 1), v)]) u2 Fc')
    (hF : ∀ k, Fc' k → Fc k ∨ Fo (e i).th k ∨ (u1.heap.size ≤ k ∧ k < u2.heap.size)) (go : Only Fc u1 u2) : Rel1 w0 om len e J (i + 1) u2 G Fo Fc' (xs ++ [(trAt e b (i + 1), v)]) := by
  obtain ⟨r1, r2, r3, r4, r5, r6, r7, r8, r9⟩ := h
  refine ⟨r1.frame (fun k hk => go.block k (OpnF.lt r1 hk).2 (fun hc => r5 k hc hk)) go.size, r2, hJ, ?_, fun k hk hO => ?_, fun k hk => ?_, go.below r7 r7.size (fun k hk => (r6 k hk).1)⟩
  · rw [List.map_append, r4, ended, ho]
    simp only [if_pos h56]
    rw [List.map_append]
    congr 1
    have he := trAt_ends e ho h56
    have := trAt_end e b (n := len) (by rw [he]; omega) (by omega : i + 1 ≤ len)
    simp [this]
  · rcases hF k hk with h | h | h
    · exact r5 k h hO
    · exact (r9 k h).2.2.2 hO
    · have := (OpnF.lt r1 hO).2
      omega
  · have hB := r7.size
    have hs := go.size
    rcases hF k hk with h | h | h
    · exact ⟨(r6 k h).1, Nat.lt_of_lt_of_le (r6 k h).2 go.size⟩
    · exact ⟨(r9 k h).2.1, Nat.lt_of_lt_of_le (r9 k h).2.2.1 go.size⟩
    · exact ⟨by omega, h.2⟩
end
end Go.Proofs.Ytdohepenmejcaaa.hs

/- The second loop: the tries that haven't ended, in whatever order the map gives them. -/
namespace Go.Proofs.Ytdohepenmejcaaa.hs
open Go Go.RowKit Go.Proofs.Ytdohepenmejcaaa.base Go.Maps
set_option linter.unusedVariables false
set_option maxRecDepth 100000

theorem ranges_keep {w w' : World} {P : Program} {k : TypeId} {R : Value → Option (DataW Value × List MemPlace)} {b r n : Nat} {D : DataW Value} {left : Lit → Bool} {cnt : Nat} (h : w.ranges P k R b r n D left cnt) (hb : w'.heap[b]? = w.heap[b]?) (hr : w'.heap[r]? = w.heap[r]?) : w'.ranges P k R b r n D left cnt := by
  obtain ⟨es, clock, since, seen, c0, h1, h2, h3, h4, h5, h6⟩ := h
  exact ⟨es, clock, since, seen, c0, hb.trans h1, h2, h3, h4, hr.trans h5, h6⟩

/-- What D says of G. -/
def Says (D : DataW Value) (G : Int → Option (Nat × Tr)) : Prop := ∀ x kl, keyOf Try.prog 3 (.int .i64 x) = some kl → Maps.has D kl = ((G x).map ptrV).isSome ∧ ∀ v z, (G x).map ptrV = some v → D.atKey kl z = .held v

/-- The step of such a loop: a try comes, whichever. -/
theorem wpListIn_next_G {ops : Array Oper} {rest : List Oper} {o : Oper} {a : Act} {Q : Exit → Act → World → Prop} {w : World} {F : Fence} {nF : Nat} (hg : o.guard = none) (it : Operand) (hop : o.op = Op.next it false) (om r n : Nat) (D : DataW Value) (G : Int → Option (Nat × Tr)) (hD : Says D G) (left : Lit → Bool) (hl : ∀ kl, left kl = true → Maps.has D kl = true) (cnt : Nat)
    (hit : a.eval it = .pointer (some ⟨r, 0, none⟩)) (h : w.ranges Try.prog 3 heldR om r n D left cnt)
    (hDone : (∀ kl, left kl = false) → wpListIn F nF Try.prog ops Q rest (a.put o.dst (.tuple #[.bool false])) w)
    (hMore : ∀ (x : Int) (b : Nat) (t : Tr) (w' : World) (cnt' : Nat), G x = some (b, t) → left (.int .i64 x) = true → w'.ranges Try.prog 3 heldR om r n D (fun z => left z && !z.sameKey (.int .i64 x)) cnt' → cnt' < cnt →
      w.grownBy w' (some r) → w'.heap.size = w.heap.size → (Instr.entry (.pointer (some ⟨r, 0, none⟩))).run Try.prog w' = .ok (.tuple #[.int .i64 x, .pointer (some ⟨b, 0, none⟩)]) w' → wpListIn F nF Try.prog ops Q rest (a.put o.dst (.tuple #[.bool true, .int .i64 x, .pointer (some ⟨b, 0, none⟩)])) w') :
    wpListIn F nF Try.prog ops Q (o :: rest) a w :=
  wpListIn_next_ranges w hg it hop 3 kInt heldR (Value.int .i64) id (fun key kl hkey => by obtain ⟨x, rfl, _⟩ := Maps.keyOf_int_inv Try.underlying3 hkey; exact ⟨x, rfl⟩) (fun v _ _ => ⟨v, rfl⟩)
    om r n D left cnt hit h (fun _ h => hDone h) (fun x c kl y w' cnt' hkey hlk hv hat hrg hlt hgr hsz hen => by
      obtain ⟨x', ex, rfl, hwx⟩ := Maps.keyOf_int_inv Try.underlying3 hkey
      cases ex
      obtain ⟨h1, h2⟩ := hD x _ hkey
      rw [hl _ hlk] at h1
      cases hG : G x with
      | none => rw [hG] at h1; cases h1
      | some p =>
        obtain ⟨b, t⟩ := p
        rw [hG] at h2
        have h3 := h2 (ptrV (b, t)) (.held undef) rfl
        rw [hat] at h3
        unfold heldR at hv
        cases hv
        injection h3 with h4
        have h5 : c = .pointer (some ⟨b, 0, none⟩) := h4
        subst h5
        exact hMore x b t w' cnt' hG hlk hrg hlt hgr hsz hen)

def Rel2 (w0 : World) (om r len : Nat) (e : Evs) (J : List (Tr × Value) → World → (Nat → Prop) → Prop) (D : DataW Value) (G : Int → Option (Nat × Tr)) (Fo : Int → Nat → Prop) (wr : World) (left : Lit → Bool) (cnt : Nat) (xs : List (Tr × Value)) (Fc : Nat → Prop) (rest : List Nat) : Prop :=
  wr.ranges Try.prog 3 heldR om r len D left cnt ∧ (∀ kl, left kl = true → Maps.has D kl = true) ∧ (∀ th b t, G th = some (b, t) → left (.int .i64 th) = true → Gng wr (Fo th) b t (wrote t.ac) (readsF t.ac) len) ∧
  J xs wr Fc ∧ xs.map Prod.fst = (ended e len ++ rest).map (fun b => trAt e b len) ∧ rest.Nodup ∧ (∀ b, b ∈ rest ↔ ∃ th, opn e len th = some b ∧ left (.int .i64 th) = false) ∧
  (∀ k, Fc k → k ≠ om ∧ k ≠ r ∧ ∀ th, G th ≠ none → left (.int .i64 th) = true → ¬ Fo th k) ∧ (∀ k, Fc k → w0.heap.size ≤ k ∧ k < wr.heap.size) ∧ Below w0.heap.size w0 wr ∧
  (∀ th k, G th ≠ none → Fo th k → w0.heap.size ≤ k ∧ k < r ∧ k ≠ om) ∧ (∀ th th' k, G th ≠ none → G th' ≠ none → Fo th k → Fo th' k → th = th') ∧ om < r ∧ w0.heap.size ≤ r ∧ r < wr.heap.size ∧ (∀ th, (G th).map Prod.snd = (opn e len th).map (fun b => trAt e b len))

section
variable {w0 w1 w2 u3 wr w' : World} {om r len : Nat} {e : Evs} {J : List (Tr × Value) → World → (Nat → Prop) → Prop} {D : DataW Value} {G : Int → Option (Nat × Tr)} {Fo : Int → Nat → Prop} {Fc : Nat → Prop} {xs : List (Tr × Value)} {left : Lit → Bool} {cnt : Nat} {rest : List Nat}

theorem rel2_start (h : Rel1 w0 om len e J len wr G Fo Fc xs) (firm : Firm2 J) (hwf : ∀ th b, opn e len th = some b → (Lit.int .i64 th).wf = true) (hD : Says D G) (hrg : w'.ranges Try.prog 3 heldR om wr.heap.size len D (Maps.has D) (Maps.size D)) (hg : wr.grownBy w' none) (hs : w'.heap.size = wr.heap.size + 1) :
    Rel2 w0 om wr.heap.size len e J D G Fo w' (Maps.has D) (Maps.size D) xs Fc [] := by
  have h' := h.grown firm hg
  obtain ⟨r1, r2, r3, r4, r5, r6, r7⟩ := h
  obtain ⟨q1, q2, q3, q4, q5, q6, q7⟩ := h'
  refine ⟨hrg, fun _ h => h, fun th b t hG _ => q1.gng th b t hG, q3, by rw [List.append_nil]; exact r4, List.nodup_nil, fun b => ⟨fun h => by simp at h, ?_⟩, fun k hk => ⟨fun e1 => r5 k hk (.inl e1), by have := (r6 k hk).2; omega, fun th hn _ hF => r5 k hk (.inr ⟨th, hn, hF⟩)⟩, q6, q7, fun th k hn hF => r1.lt th k hn hF, r1.apart, r1.map.lt, r7.size, by omega, r2⟩
  rintro ⟨th, ho, hl⟩
  obtain ⟨bk, hG⟩ := G_of ⟨r1, r2, r3, r4, r5, r6, r7⟩ ho
  have := (hD th _ (keyInt (hwf th b ho))).1
  rw [hG] at this
  rw [hl] at this
  cases this

/-- One of them has come. -/
theorem rel2_came (h : Rel2 w0 om r len e J D G Fo w1 left cnt xs Fc rest) (firm : Firm2 J) (hg : w1.grownBy w2 (some r)) {x : Int} {b : Nat} {t : Tr} (hG : G x = some (b, t)) (hl : left (.int .i64 x) = true) :
    J xs w2 Fc ∧ Gng w2 (Fo x) b t (wrote t.ac) (readsF t.ac) len ∧ (∀ k, Fc k → ¬ Fo x k) ∧ (∀ k, Fo x k → k < w2.heap.size) ∧ (∃ p, opn e len x = some p ∧ t = trAt e p len) := by
  obtain ⟨h1, h2, h3, h4, h5, h6, h7, h8, h9, h10, h11, h12, h13, h14, h15, h16⟩ := h
  have hne : G x ≠ none := by rw [hG]; simp
  refine ⟨firm _ _ _ _ h4 (fun k hk => hg.block k (h9 k hk).2 (by simp; exact (h8 k hk).2.1)), (h3 x b t hG hl).keep (fun k hk => hg.block k (by have := (h11 x k hne hk).2.1; omega) (by simp; have := (h11 x k hne hk).2.1; omega)), fun k hk hF => (h8 k hk).2.2 x hne hl hF, fun k hF => by have := (h11 x k hne hF).2.1; have := hg.size; omega, ?_⟩
  have := h16 x
  rw [hG] at this
  cases ho : opn e len x with
  | none => rw [ho] at this; cases this
  | some p =>
    rw [ho] at this
    simp only [Option.map_some, Option.some.injEq] at this
    exact ⟨p, rfl, this⟩

theorem sameKey_int (a b : Int) : (Lit.int .i64 a).sameKey (.int .i64 b) = decide (a = b) := by simp [Lit.sameKey]

theorem rel2_step (h : Rel2 w0 om r len e J D G Fo w1 left cnt xs Fc rest) (firm : Firm2 J) {cnt' : Nat} {x : Int} (hrg : w2.ranges Try.prog 3 heldR om r len D (fun z => left z && !z.sameKey (.int .i64 x)) cnt') (hg : w1.grownBy w2 (some r)) {b p : Nat} {t : Tr} (hG : G x = some (b, t)) (hl : left (.int .i64 x) = true)
    (ho : opn e len x = some p) (ht : t = trAt e p len) {v : Value} {Fc' : Nat → Prop} (hJ : J (xs ++ [(t, v)]) u3 Fc') (hF : ∀ k, Fc' k → Fc k ∨ Fo x k ∨ (w2.heap.size ≤ k ∧ k < u3.heap.size)) (go : Only Fc w2 u3) :
    Rel2 w0 om r len e J D G Fo u3 (fun z => left z && !z.sameKey (.int .i64 x)) cnt' (xs ++ [(t, v)]) Fc' (rest ++ [p]) := by
  obtain ⟨h1, h2, h3, h4, h5, h6, h7, h8, h9, h10, h11, h12, h13, h14, h15, h16⟩ := h
  have hne : G x ≠ none := by rw [hG]; simp
  have hs := hg.size
  have hs2 := go.size
  have hleft : ∀ th, (left (.int .i64 th) && !(Lit.int .i64 th).sameKey (.int .i64 x)) = true → left (.int .i64 th) = true ∧ th ≠ x := fun th h => by
    rw [sameKey_int] at h
    simpa using h
  refine ⟨ranges_keep hrg (go.block om (by omega) (fun hc => (h8 om hc).1 rfl)) (go.block r (by omega) (fun hc => (h8 r hc).2.1 rfl)), fun kl hk => h2 kl (by simp at hk; exact hk.1), fun th b' t' hG' hl' => ?_, hJ, ?_, ?_, fun q => ?_, fun k hk => ?_, fun k hk => ?_, (go.below (h10.grown hg h10.size (fun k e1 => by cases e1; exact h14)) (by have := h10.size; omega) (fun k hk => (h9 k hk).1)), h11, h12, h13, h14, by omega, h16⟩
  · obtain ⟨q1, q2⟩ := hleft th hl'
    have hn' : G th ≠ none := by rw [hG']; simp
    exact (h3 th b' t' hG' q1).keep (fun k hk => by
      have h17 := h11 th k hn' hk
      exact (go.block k (by omega) (fun hc => (h8 k hc).2.2 th hn' q1 hk)).trans (hg.block k (by omega) (by simp; omega)))
  · rw [List.map_append, h5, ← List.append_assoc, List.map_append (l₁ := ended e len ++ rest)]
    simp [ht]
  · refine List.nodup_append.2 ⟨h6, by simp, fun a ha c hc hac => ?_⟩
    have : c = p := by simpa using hc
    subst this
    subst hac
    obtain ⟨th, h17, h18⟩ := (h7 a).1 ha
    have h19 := (opn_spec e _ _ _ h17).2.2.1
    have h20 := (opn_spec e _ _ _ ho).2.2.1
    rw [← h19, h20, hl] at h18
    cases h18
  · rw [List.mem_append, h7]
    constructor
    · rintro (⟨th, h17, h18⟩ | h17)
      · exact ⟨th, h17, by simp [h18]⟩
      · have : q = p := by simpa using h17
        subst this
        exact ⟨x, ho, by simp [sameKey_int]⟩
    · rintro ⟨th, h17, h18⟩
      simp only [sameKey_int] at h18
      by_cases hx : th = x
      · subst hx
        rw [ho] at h17
        cases h17
        exact .inr (by simp)
      · left
        refine ⟨th, h17, ?_⟩
        simpa [hx] using h18
  · rcases hF k hk with h17 | h17 | h17
    · exact ⟨(h8 k h17).1, (h8 k h17).2.1, fun th hn hl' => (h8 k h17).2.2 th hn (hleft th hl').1⟩
    · have h18 := h11 x k hne h17
      exact ⟨h18.2.2, by omega, fun th hn hl' hF' => (hleft th hl').2 (h12 th x k hn hne hF' h17)⟩
    · exact ⟨by omega, by omega, fun th hn _ hF' => by have := h11 th k hn hF'; omega⟩
  · have hB := h10.size
    rcases hF k hk with h17 | h17 | h17
    · exact ⟨(h9 k h17).1, by have := (h9 k h17).2; omega⟩
    · have h18 := h11 x k hne h17
      exact ⟨h18.1, by omega⟩
    · exact ⟨by omega, h17.2⟩

theorem rel2_done (h : Rel2 w0 om r len e J D G Fo w1 left cnt xs Fc rest) (hl : ∀ kl, left kl = false) : rest.Nodup ∧ (∀ b, b ∈ rest ↔ ∃ th, opn e len th = some b) ∧ xs.map Prod.fst = (ended e len ++ rest).map (fun b => trAt e b len) := by
  obtain ⟨h1, h2, h3, h4, h5, h6, h7, h8⟩ := h
  refine ⟨h6, fun b => ?_, h5⟩
  rw [h7]
  exact ⟨fun ⟨th, h, _⟩ => ⟨th, h⟩, fun ⟨th, h⟩ => ⟨th, h, hl _⟩⟩
end
end Go.Proofs.Ytdohepenmejcaaa.hs

/- The document's own answers of chapter 17, in plain numbers, and that they are those of XHm. Of no program, and of no memory. -/
namespace Go.Proofs.Ytdohepenmejcaaa.base
open Go

/-- The place of a thread's last EvBegin ahead of a place; -1: none. -/
def lastI (e : Evs) : Nat → Int → Int
  | 0, _ => -1
  | i + 1, th => if (e i).k = 1 ∧ (e i).th = th then (i : Int) else lastI e i th
/-- No end of the thread of place b's event stands between b and a place. -/
def openB (e : Evs) (b : Nat) : Nat → Bool
  | 0 => true
  | i + 1 => openB e b i && !(decide (b < i) && (decide ((e i).th = (e b).th) && (decide ((e i).k = 5) || decide ((e i).k = 6))))

theorem lastI_lt (e : Evs) : ∀ i th, -1 ≤ lastI e i th ∧ lastI e i th < i
  | 0, th => ⟨by simp [lastI], by simp [lastI]⟩
  | i + 1, th => by
    have := lastI_lt e i th
    unfold lastI
    split <;> omega
theorem openB_self (e : Evs) (b : Nat) : ∀ i, i ≤ b + 1 → openB e b i = true
  | 0, _ => rfl
  | i + 1, h => by
    rw [openB, openB_self e b i (by omega)]
    simp
    omega

theorem opn_ref (e : Evs) : ∀ i th, opn e i th = if 0 ≤ lastI e i th ∧ openB e (lastI e i th).toNat i = true then some (lastI e i th).toNat else none
  | 0, th => by simp [opn, lastI]
  | i + 1, th => by
    have ih := opn_ref e i th
    have hl := lastI_lt e i th
    have hspec : 0 ≤ lastI e i th → (e (lastI e i th).toNat).th = th := by
      clear ih hl
      induction i with
      | zero => simp [lastI]
      | succ i ih =>
        unfold lastI
        split
        · next h => intro _; simpa using h.2
        · exact ih
    have hself := openB_self e i (i + 1) (Nat.le_refl _)
    unfold opn
    by_cases hth : (e i).th = th
    · rw [if_pos hth]
      by_cases h1 : (e i).k = 1
      · have hl1 : lastI e (i + 1) th = (i : Int) := by rw [lastI, if_pos ⟨h1, hth⟩]
        rw [hl1, if_pos h1, Int.toNat_natCast, if_pos ⟨by omega, hself⟩]
      · have hl1 : lastI e (i + 1) th = lastI e i th := by rw [lastI, if_neg (fun h => h1 h.1)]
        rw [hl1, if_neg h1]
        by_cases h56 : (e i).k = 5 ∨ (e i).k = 6
        · rw [if_pos h56]
          by_cases h0 : 0 ≤ lastI e i th
          · rw [if_neg]
            rintro ⟨_, h2⟩
            rw [openB] at h2
            have h3 := hspec h0
            have h4 : (lastI e i th).toNat < i := by omega
            rcases h56 with h56 | h56 <;> simp [h4, h3, hth, h56] at h2
          · rw [if_neg (fun h => h0 h.1)]
        · rw [if_neg h56, ih]
          have : openB e (lastI e i th).toNat (i + 1) = openB e (lastI e i th).toNat i := by
            rw [openB]
            have h5 : ¬ (e i).k = 5 := fun h => h56 (.inl h)
            have h6 : ¬ (e i).k = 6 := fun h => h56 (.inr h)
            simp [h5, h6]
          rw [this]
    · have hl1 : lastI e (i + 1) th = lastI e i th := by rw [lastI, if_neg (fun h => hth h.2)]
      rw [hl1, if_neg hth, ih]
      by_cases h0 : 0 ≤ lastI e i th
      · have : openB e (lastI e i th).toNat (i + 1) = openB e (lastI e i th).toNat i := by
          rw [openB, hspec h0]
          simp [hth]
        rw [this]
      · rw [if_neg (fun h => h0 h.1), if_neg (fun h => h0 h.1)]

/-- Is an event of another one's attempt? -/
def ownE (b e : Ev) : Bool := decide (b.th = e.th) && decide (b.tx = e.tx) && decide (b.at_ = e.at_)

/-- The document's try of an EvBegin, ahead of a place. -/
def docAt (e : Evs) (b : Nat) : Nat → Tr
  | 0 => init b (e b)
  | i + 1 => if b < i ∧ ownE (e b) (e i) = true ∧ (docAt e b i).en < 0 then stepT (docAt e b i) i (e i) else docAt e b i

/-- In a right trace a try that has no end goes on. -/
theorem opn_of (e : Evs) {n b : Nat} (hr : right e n = true) (hb : b < n) (hk : (e b).k = 1) (hen : (trAt e b n).en < 0) : opn e n (e b).th = some b := by
  rcases begun_all e n hr b hb hk with h | h
  · have := ended_spec e n b h
    omega
  · exact h

theorem may_own (e : Evs) {i b : Nat} (h : may e i = true) (ho : opn e i (e i).th = some b) : ownE (e b) (e i) = true ∧ 2 ≤ (e i).k ∧ (e i).k ≤ 6 := by
  unfold may at h
  rw [ho] at h
  have := (opn_spec e _ _ _ ho).2.2.1
  simp at h
  unfold ownE
  simp [this, h.1.2, h.2]
  omega

theorem docAt_eq (e : Evs) (b : Nat) (hk : (e b).k = 1) : ∀ n, right e n = true → docAt e b n = trAt e b n
  | 0, _ => rfl
  | n + 1, hr => by
    have hr0 := hr
    rw [right, Bool.and_eq_true] at hr
    have ih := docAt_eq e b hk n hr.1
    rw [docAt, trAt, ih]
    by_cases hb : b < n
    · by_cases hen : (trAt e b n).en < 0
      · have ho := opn_of e hr.1 hb hk hen
        by_cases hth : (e n).th = (e b).th
        · rw [← hth] at ho
          rw [if_pos ⟨hb, (may_own e hr.2 ho).1, hen⟩, if_pos ⟨hb, hth, hen⟩]
        · rw [if_neg, if_neg (fun h => hth h.2.1)]
          rintro ⟨_, h, _⟩
          unfold ownE at h
          simp at h
          exact hth h.1.1.symm
      · rw [if_neg (fun h => hen h.2.2), if_neg (fun h => hen h.2.2)]
    · rw [if_neg (fun h => hb h.1), if_neg (fun h => hb h.1)]

theorem co_en (e : Evs) (b : Nat) : ∀ n, (trAt e b n).co = true → 0 ≤ (trAt e b n).en
  | 0, h => by simp [trAt, init] at h
  | n + 1, h => by
    rw [trAt] at h ⊢
    split
    · next hc =>
      rw [if_pos hc] at h
      rw [stepT_en]
      split
      · omega
      · next h56 =>
        have : (stepT (trAt e b n) n (e n)).co = (trAt e b n).co := by
          unfold stepT
          repeat' split
          all_goals first | rfl | (exfalso; apply h56; simp [*])
        rw [this] at h
        have := co_en e b n h
        omega
    · next hc =>
      rw [if_neg hc] at h
      exact co_en e b n h

/-- Where a try ended: an end of its thread, at which it was the one that went on. -/
theorem en_at (e : Evs) {b : Nat} (hk : (e b).k = 1) : ∀ n, right e n = true → b < n → 0 ≤ (trAt e b n).en → ∃ i, i < n ∧ (trAt e b n).en = (i : Int) ∧ opn e i (e i).th = some b ∧ ((e i).k = 5 ∨ (e i).k = 6) ∧ ((trAt e b n).co = true ↔ (e i).k = 5)
  | 0, _, h, _ => by omega
  | n + 1, hr, hb, h => by
    rw [right, Bool.and_eq_true] at hr
    by_cases hbn : b = n
    · subst hbn
      rw [trAt_init _ _ _ (Nat.le_refl _)] at h
      simp [init] at h
    · by_cases hen : (trAt e b n).en < 0
      · have ho := opn_of e hr.1 (by omega) hk hen
        rw [trAt] at h ⊢
        by_cases hth : (e n).th = (e b).th
        · rw [if_pos ⟨by omega, hth, hen⟩] at h ⊢
          rw [← hth] at ho
          by_cases h56 : (e n).k = 5 ∨ (e n).k = 6
          · refine ⟨n, by omega, by rw [stepT_en, if_pos h56], ho, h56, ?_⟩
            have hco : (trAt e b n).co ≠ true := fun h2 => by have := co_en e b n h2; omega
            rcases h56 with h5 | h6
            · simp [stepT, h5]
            · simp [stepT, h6, hco]
          · rw [stepT_en, if_neg h56] at h
            omega
        · rw [if_neg (fun h => hth h.2.1)] at h
          omega
      · have e1 : trAt e b (n + 1) = trAt e b n := by rw [trAt, if_neg (fun h => hen h.2.2)]
        rw [e1] at h ⊢
        obtain ⟨i, h1, h2⟩ := en_at e hk n hr.1 (by omega) h
        exact ⟨i, by omega, h2⟩

/-- The document's order: by the ends. -/
def commsD (e : Evs) (n : Nat) : List Tr := (List.range n).flatMap fun (i : Nat) => (tries e n).filter fun t => t.co && decide (t.en = (i : Int))

theorem tries_mem (e : Evs) (n : Nat) (t : Tr) : t ∈ tries e n ↔ ∃ b, b < n ∧ (e b).k = 1 ∧ trAt e b n = t := by
  unfold tries
  rw [List.mem_map]
  constructor
  · rintro ⟨b, h1, h2⟩
    obtain ⟨h3, h4⟩ := (begins_mem e n b).1 h1
    exact ⟨b, h3, h4, h2⟩
  · rintro ⟨b, h3, h4, h2⟩
    exact ⟨b, (begins_mem e n b).2 ⟨h3, h4⟩, h2⟩
theorem tries_nodup (e : Evs) (n : Nat) : (tries e n).Nodup := (tries_sorted e n).imp fun h h2 => by rw [h2] at h; omega

/-- One try an end. -/
theorem en_one (e : Evs) {n : Nat} (hr : right e n = true) {t u : Tr} (ht : t ∈ tries e n) (hu : u ∈ tries e n) (h0 : 0 ≤ t.en) (h : t.en = u.en) : t = u := by
  obtain ⟨b, h1, h2, rfl⟩ := (tries_mem e n t).1 ht
  obtain ⟨c, h3, h4, rfl⟩ := (tries_mem e n u).1 hu
  obtain ⟨i, _, hi, ho, _⟩ := en_at e h2 n hr h1 h0
  obtain ⟨j, _, hj, ho2, _⟩ := en_at e h4 n hr h3 (by omega)
  have : i = j := by omega
  subst this
  rw [ho] at ho2
  cases ho2
  rfl

theorem commsD_sorted (e : Evs) {n : Nat} (hr : right e n = true) : (commsD e n).Pairwise (fun x y => x.en < y.en) := by
  unfold commsD
  rw [List.pairwise_flatMap]
  refine ⟨fun i _ => ?_, ?_⟩
  · have hnd := (tries_nodup e n).filter (fun t => t.co && decide (t.en = (i : Int)))
    refine (List.pairwise_iff_getElem.2 fun a b ha hb hab => ?_)
    have h1 := List.getElem_mem ha
    have h2 := List.getElem_mem hb
    rw [List.mem_filter] at h1 h2
    simp at h1 h2
    have := en_one e hr h1.1 h2.1 (by omega) (by omega)
    exact absurd this (List.pairwise_iff_getElem.1 hnd a b ha hb hab)
  · refine List.pairwise_lt_range.imp ?_
    intro i j hij x hx y hy
    rw [List.mem_filter] at hx hy
    simp at hx hy
    omega

theorem commsD_perm (e : Evs) {n : Nat} (hr : right e n = true) : (commsD e n).Perm ((tries e n).filter fun t => t.co) := by
  refine (List.perm_ext_iff_of_nodup ((commsD_sorted e hr).imp fun h h2 => by rw [h2] at h; omega) ((tries_nodup e n).filter _)).2 fun t => ?_
  unfold commsD
  rw [List.mem_flatMap]
  constructor
  · rintro ⟨i, _, h⟩
    rw [List.mem_filter] at h ⊢
    simp at h
    exact ⟨h.1, h.2.1⟩
  · intro h
    rw [List.mem_filter] at h
    obtain ⟨ht, hc⟩ := h
    have hc' : t.co = true := hc
    obtain ⟨b, h1, h2, rfl⟩ := (tries_mem e n t).1 ht
    obtain ⟨i, h3, h4, _⟩ := en_at e h2 n hr h1 (co_en e b n hc')
    exact ⟨i, by simpa using h3, List.mem_filter.2 ⟨ht, by simp [hc', h4]⟩⟩

/-- As many tries committed as there are EvCommit. -/
theorem comms_before (e : Evs) {n : Nat} (hr : right e n = true) : ((tries e n).filter fun t => t.co).length = before e n := by
  rw [← (commsD_perm e hr).length_eq]
  have key : ∀ m, m ≤ n → ((List.range m).flatMap fun (i : Nat) => (tries e n).filter fun t => t.co && decide (t.en = (i : Int))).length = before e m := by
    intro m
    induction m with
    | zero => intro _; rfl
    | succ m ih =>
      intro hm
      rw [List.range_succ, List.flatMap_append, List.length_append, ih (by omega), before]
      congr 1
      simp only [List.flatMap_cons, List.flatMap_nil, List.append_nil]
      have hmay := right_may e hr (show m < n by omega)
      by_cases h5 : (e m).k = 5
      · rw [if_pos h5]
        obtain ⟨b, ho⟩ : ∃ b, opn e m (e m).th = some b := by
          cases ho : opn e m (e m).th with
          | some b => exact ⟨b, rfl⟩
          | none =>
            unfold may at hmay
            rw [ho] at hmay
            simp [h5] at hmay
        obtain ⟨b1, b2, b3, b4⟩ := opn_spec e _ _ _ ho
        have e1 := trAt_ends e ho (.inl h5)
        have e2 : trAt e b n = trAt e b (m + 1) := trAt_end e b (by omega) (by omega)
        have hmem : trAt e b n ∈ (tries e n).filter fun t => t.co && decide (t.en = (m : Int)) := by
          rw [List.mem_filter]
          refine ⟨(tries_mem e n _).2 ⟨b, by omega, b2, rfl⟩, ?_⟩
          rw [e2, e1, trAt_step e ho]
          simp [stepT, h5]
        have hone : ∀ t ∈ (tries e n).filter (fun t => t.co && decide (t.en = (m : Int))), t = trAt e b n := by
          intro t ht
          rw [List.mem_filter] at ht hmem
          simp at ht hmem
          exact en_one e hr ht.1 hmem.1 (by omega) (by omega)
        have hnd := (tries_nodup e n).filter (fun t => t.co && decide (t.en = (m : Int)))
        revert hmem hone hnd
        generalize (tries e n).filter (fun t => t.co && decide (t.en = (m : Int))) = L
        intro hmem hone hnd
        match L, hmem, hone, hnd with
        | [a], _, _, _ => rfl
        | a :: b :: L, _, hone, hnd =>
          have h1 := hone a (by simp)
          have h2 := hone b (by simp)
          rw [h1, h2] at hnd
          simp at hnd
      · rw [if_neg h5, List.length_eq_zero_iff, List.filter_eq_nil_iff]
        intro t ht
        obtain ⟨b, h1, h2, rfl⟩ := (tries_mem e n t).1 ht
        simp
        intro hc hen
        obtain ⟨i, h3, h4, _, _, h7⟩ := en_at e h2 n hr h1 (co_en e b n hc)
        have : i = m := by omega
        subst this
        exact h5 (h7.1 hc)
  exact key n (Nat.le_refl n)
end Go.Proofs.Ytdohepenmejcaaa.base

/- The tries of a trace, one behind the other: hist's function that is ranged over. -/
namespace Go.Proofs.Ytdohepenmejcaaa.hs
open Go Go.RowKit Go.Proofs.Ytdohepenmejcaaa.base Go.Maps
set_option linter.unusedVariables false
set_option maxRecDepth 100000
attribute [local go_sem] Oper.semAt_some

/-- Wherever J has seen the tries of pre, it takes one more, whose accesses lie apart, and gives word. -/
def Takes (m l : Nat) (J : List (Tr × Value) → World → (Nat → Prop) → Prop) : Prop :=
  ∀ (pre : List (Tr × Value)) (t : Tr) (v : Value) (W : World) (Fc G : Nat → Prop), J pre W Fc → W.ownsRow 0 54 6 v t.ac.length (rows accC t.ac) → (∀ k, v.ownBlock = some k → G k) → (∀ k, Fc k → ¬ G k) → (∀ k, G k → k < W.heap.size) → (∀ k, Fc k → k < W.heap.size) → t.ac.length ≤ 100000 → pre.length < 100000 →
    YieldAt Fence.wide m Try.prog l #[.agg ⟨trC t v⟩] W fun e W' => e = .returned (.bool true) ∧ ∃ Fc', J (pre ++ [(t, v)]) W' Fc' ∧ (∀ k, Fc' k → Fc k ∨ G k ∨ (W.heap.size ≤ k ∧ k < W'.heap.size)) ∧ Only Fc W W'

theorem ended_len (e : Evs) : ∀ n, (ended e n).length ≤ n
  | 0 => by simp [ended]
  | n + 1 => by
    have := ended_len e n
    unfold ended
    cases opn e n (e n).th with
    | none => simp; omega
    | some b => dsimp only; split <;> simp <;> omega
theorem trAt_ac (e : Evs) (b : Nat) : ∀ n, (trAt e b n).ac.length ≤ n
  | 0 => by simp [trAt, init]
  | n + 1 => by
    have := trAt_ac e b n
    unfold trAt
    split
    · unfold base.stepT
      repeat' split
      all_goals simp [relAll] <;> omega
    · omega
theorem zeroP (w : World) : (zeroValue 117).run Try.prog w = .ok (.pointer none) w := by kernel_rfl

set_option maxHeartbeats 4000000 in
theorem tries_in (n : Nat) (hn : 1 ≤ n) (l : Nat) (a : Option Addr) (len cap : Nat) (e : Evs) (J : List (Tr × Value) → World → (Nat → Prop) → Prop) (firm : Firm2 J)
    (hY : Takes (n - 1) l J) (w0 W : World) (hL : IsEvs w0 a len e) (hr : right e len = true) (hlen : len ≤ 10000) (Fc0 : Nat → Prop) (h0 : J [] W Fc0) (hF0 : ∀ k, Fc0 k → w0.heap.size ≤ k ∧ k < W.heap.size) (hB : Below w0.heap.size w0 W) :
    CallsIn Fence.wide n Try.prog 50 #[.slice a len cap, .func (.yield l) #[] #[]] W fun r W' => r = .returned (.tuple #[]) ∧ ∃ xs Fc rest, J xs W' Fc ∧ (∀ k, Fc k → w0.heap.size ≤ k ∧ k < W'.heap.size) ∧ Below w0.heap.size w0 W' ∧
      rest.Nodup ∧ (∀ b, b ∈ rest ↔ ∃ th, opn e len th = some b) ∧ xs.map Prod.fst = (ended e len ++ rest).map (fun b => trAt e b len) := by
  have hmm := @run_makeMap Try.prog
  refine callsIn_of_wp Try.func50 rfl trivial ?_ rfl
  simp only [Try.ntmps50, List.size_toArray, List.length_cons, List.length_nil, Nat.reduceAdd, Nat.reduceSub, Array.replicate_succ, Array.replicate_zero, List.push_toArray, List.append_toArray, List.nil_append, List.cons_append]
  gi_wp2
  have R0 : Rel1 w0 W.heap.size len e J 0 (W.alloc (.map #[] 0)) (fun _ => none) (fun _ _ => False) Fc0 [] := by
    refine ⟨⟨(MapG.made W Try.prog 3 (Value.int .i64)).congr (fun _ _ _ => rfl), by simp, by simp, by simp, hB.size⟩, fun th => rfl, firm _ _ _ _ h0 (fun k hk => Below.heap_alloc W _ k (hF0 k hk).2), rfl, fun k hk h => ?_, fun k hk => ⟨(hF0 k hk).1, by have := (hF0 k hk).2; simp; omega⟩, bl_none hB (World.grownBy_alloc W _ none)⟩
    rcases h with h | ⟨_, h, _⟩
    · have := (hF0 k hk).2
      omega
    · exact h rfl
  have HR0 := Lib.hid R0
  have HL := Lib.hid hL
  have HRT := Lib.hid hr
  have HLEN := Lib.hid hlen
  have FIRM := Lib.hid firm
  have HY := Lib.hid hY
  have HBS := Lib.hid (show w0.heap.size ≤ W.heap.size from hB.size)
  clear R0 hL hr h0 hF0 hB firm hY
  gi_loopw [14] (fun iv wr => ∃ (i : Nat) (G : Int → Option (Nat × Tr)) (Fo : Int → Nat → Prop) (Fc : Nat → Prop) (xs : List (Tr × Value)), i ≤ len ∧ iv = .int .i64 i ∧ Hid (Rel1 w0 W.heap.size len e J i wr G Fo Fc xs)) (fun iv _ => (len - intOf iv).toNat)
  case atStart => exact ⟨0, _, _, _, _, by omega, rfl, HR0⟩
  case round =>
    obtain ⟨i, G, Fo, Fc, xs, hi, rfl, HR⟩ := hrel
    by_cases hlt : i < len
    · have hlt' : (i : Int) < (len : Int) := by omega
      have hin : (i : Int) < 10000 := by have := HLEN.out; omega
      obtain ⟨b0, off, rfl, hb0, c0, c1, c2, c3, c4, c5, c6, we⟩ := (HL.out.below HR.out.2.2.2.2.2.2 (Nat.le_refl _)).at7 hlt
      have WE := Lib.hid we
      have hmay := right_may e HRT.out hlt
      have hxl : xs.length ≤ i := by
        have := congrArg List.length HR.out.2.2.2.1
        rw [List.length_map, List.length_map] at this
        rw [this]
        exact ended_len e i
      cases ho : opn e i (e i).th with
      | none =>
        have HG := Lib.hid (G_no HR.out ho)
        unfold may at hmay
        rw [ho] at hmay
        by_cases h1 : (e i).k = 1
        · have HR1 := Lib.hid (HR.out.grown FIRM.out (World.grownBy_alloc wr (.cells #[.int .i64 1, .int .i64 ((e i).th), .int .i64 ((e i).tx), .int .i64 ((e i).at_), .int .i64 ((e i).ob), .int .i64 ((e i).va), .int .i64 ((e i).re)] 58) none))
          have EB := Lib.hid (Blk.made wr 58 #[.int .i64 1, .int .i64 ((e i).th), .int .i64 ((e i).tx), .int .i64 ((e i).at_), .int .i64 ((e i).ob), .int .i64 ((e i).va), .int .i64 ((e i).re)])
          rw [h1] at c0
          have H1 := Lib.hid h1
          have HO := Lib.hid ho
          clear hmay h1 ho we HR
          have RO1 := Lib.hid HR1.out.1
          gi_wp2_with (first | (gi_at_lookup; refine wpListIn_look_mapG rfl _ _ 116 rfl 3 117 kInt Try.underlying116 _ (zeroP _) (Value.int .i64) W.heap.size i (fun th => (G th).map ptrV) rfl RO1.out.map (e i).th _ rfl (keyInt WE.out.th) (.pointer none) false (by rw [HG.out]; rfl) (by rw [HG.out]; rfl) ?_) | gi_in)
          generalize wr.alloc _ = v1 at *
          have e1 : v1.cell? ⟨wr.heap.size, 1, none⟩ = some (.int .i64 (e i).th) := EB.out.cell 1
          have e0 : v1.cell? ⟨wr.heap.size, 0, none⟩ = some (.int .i64 1) := EB.out.cell 0
          have e2 : v1.cell? ⟨wr.heap.size, 2, none⟩ = some (.int .i64 (e i).tx) := EB.out.cell 2
          have e3 : v1.cell? ⟨wr.heap.size, 3, none⟩ = some (.int .i64 (e i).at_) := EB.out.cell 3
          have e4 : v1.cell? ⟨wr.heap.size, 4, none⟩ = some (.int .i64 (e i).ob) := EB.out.cell 4
          have e5 : v1.cell? ⟨wr.heap.size, 5, none⟩ = some (.int .i64 (e i).va) := EB.out.cell 5
          have e6 : v1.cell? ⟨wr.heap.size, 6, none⟩ = some (.int .i64 (e i).re) := EB.out.cell 6
          gi_region_with (refine ⟨trivial, ?_⟩; gi_at_call 55; refine (callsIn_wide.2 (begun_any i ⟨1, (e i).th, (e i).tx, (e i).at_, (e i).ob, (e i).va, (e i).re⟩ _)).mono ?_; rintro r u1 ⟨bn, rfl, g1, gg1⟩; have E1 := EB.out.drew.grown gg1.out (by simp); have x1 : u1.cell? ⟨wr.heap.size, 1, none⟩ = some (.int .i64 (e i).th) := E1.cell 1; obtain ⟨u2, hU, hm2, hg2⟩ := ((show MapG Try.prog 3 (Value.int .i64) v1.drew W.heap.size i (fun th => (G th).map ptrV) from RO1.out.map).grown gg1.out (by simp)).set kInt vint_inj Try.underlying116 (by unfold maxLen; omega) (keyInt WE.out.th) (.pointer (some ⟨bn, 0, none⟩)); have HM2 := Lib.hid hm2; have HG2 := Lib.hid hg2; clear hm2 hg2 E1)
          all_goals
            gi_wp2
            go_roundw
            case rel =>
              obtain ⟨G', Fo', q⟩ := rel1_put HR1.out FIRM.out HO.out H1.out (ev := ⟨1, (e i).th, (e i).tx, (e i).at_, (e i).ob, (e i).va, (e i).re⟩) rfl (gb_trans (gb_drew (gb_refl v1 none)) gg1.out) g1.out HM2.out HG2.out
              exact ⟨i + 1, G', Fo', Fc, xs, by omega, by go_num, q⟩
            case measure => simp [intOf]; omega
        · have hk7 : (e i).k = 7 := by
            simp only [Bool.or_eq_true, Bool.and_eq_true, beq_iff_eq] at hmay
            omega
          have HR1 := Lib.hid (HR.out.grown FIRM.out (World.grownBy_alloc wr (.cells #[.int .i64 7, .int .i64 ((e i).th), .int .i64 ((e i).tx), .int .i64 ((e i).at_), .int .i64 ((e i).ob), .int .i64 ((e i).va), .int .i64 ((e i).re)] 58) none))
          rw [hk7] at c0
          have H1 := Lib.hid h1
          have HO := Lib.hid ho
          clear hmay h1 ho we HR hk7
          have RO1 := Lib.hid HR1.out.1
          gi_wp2_with (first | (gi_at_lookup; refine wpListIn_look_mapG rfl _ _ 116 rfl 3 117 kInt Try.underlying116 _ (zeroP _) (Value.int .i64) W.heap.size i (fun th => (G th).map ptrV) rfl RO1.out.map (e i).th _ rfl (keyInt WE.out.th) (.pointer none) false (by rw [HG.out]; rfl) (by rw [HG.out]; rfl) ?_) | gi_in)
          refine ⟨trivial, ?_⟩
          gi_wp2
          go_roundw
          case rel => exact ⟨i + 1, G, Fo, Fc, xs, by omega, by go_num, rel1_skip HR1.out HO.out H1.out⟩
          case measure => simp [intOf]; omega
      | some b =>
        obtain ⟨bk, hG⟩ := G_of HR.out ho
        have HG := Lib.hid hG
        obtain ⟨_, hk2, hk6⟩ := may_own e hmay ho
        have hob := opn_spec e i _ b ho
        have HR1 := Lib.hid (HR.out.grown FIRM.out (World.grownBy_alloc wr (.cells #[.int .i64 ((e i).k), .int .i64 ((e i).th), .int .i64 ((e i).tx), .int .i64 ((e i).at_), .int .i64 ((e i).ob), .int .i64 ((e i).va), .int .i64 ((e i).re)] 58) none))
        have EB := Lib.hid (Blk.made wr 58 #[.int .i64 ((e i).k), .int .i64 ((e i).th), .int .i64 ((e i).tx), .int .i64 ((e i).at_), .int .i64 ((e i).ob), .int .i64 ((e i).va), .int .i64 ((e i).re)])
        have f1 : ((e i).k == 1) = false := by simp; omega
        have HK := Lib.hid (show 2 ≤ (e i).k ∧ (e i).k ≤ 6 from ⟨hk2, hk6⟩)
        have HOB := Lib.hid hob
        have HO := Lib.hid ho
        have RO1 := Lib.hid HR1.out.1
        have ELT : Hid (∀ k, Fo (e i).th k → k < wr.heap.size) := Lib.hid (fun k hk => (HR.out.1.lt _ k (by rw [hG]; simp) hk).2.1)
        have ACL := Lib.hid (trAt_ac e b i)
        have HXL := Lib.hid hxl
        clear hmay ho we hG hk2 hk6 hob hxl
        by_cases h56 : (e i).k = 5 ∨ (e i).k = 6
        · have HD := Lib.hid (show decide ((e i).k = 5 ∨ (e i).k = 6) = true by simpa using h56)
          have H56 := Lib.hid h56
          clear h56
          gi_wp2_with (first | (gi_at_lookup; refine wpListIn_look_mapG rfl _ _ 116 rfl 3 117 kInt Try.underlying116 _ (zeroP _) (Value.int .i64) W.heap.size i (fun th => (G th).map ptrV) rfl RO1.out.map (e i).th _ rfl (keyInt WE.out.th) (.pointer (some ⟨bk, 0, none⟩)) true (by rw [HG.out]; rfl) (by rw [HG.out]; rfl) ?_) | (refine ⟨trivial, ?_⟩; gi_at_call 56; refine (callsIn_wide.2 (does_any _ (Fo (e i).th) bk (trAt e b i) i i (e i) WE.out HK.out (fun k hk => by have := ELT.out k hk; simp; omega) (RO1.out.gng _ _ _ HG.out) HOB.out.2.2.2 (by have := ACL.out; omega) (by omega))).mono ?_; rw [HD.out]; rintro r u1 ⟨rfl, g1, o1⟩; have x1 : u1.cell? ⟨wr.heap.size, 1, none⟩ = some (.int .i64 (e i).th) := ((EB.out.keep (o1.out.block wr.heap.size (by simp) (fun hF => Nat.lt_irrefl _ (ELT.out _ hF)))).cell 1); have MU := Lib.hid (RO1.out.map.keep (o1.out.block W.heap.size RO1.out.map.lt (fun hF => (RO1.out.lt _ _ (by rw [HG.out]; simp) hF).2.2 rfl)))) | (gi_at_delete; refine wpListIn_del_mapG rfl _ _ 116 3 rfl 117 kInt (Value.int .i64) vint_inj Try.underlying116 W.heap.size i (fun th => (G th).map ptrV) rfl MU.out (e i).th _ rfl (keyInt WE.out.th) ?_; intro u2 m2 g2; obtain ⟨G', Fo', MID, hFo, GN⟩ := rel1_mid HR1.out FIRM.out HO.out HG.out H56.out g1.out o1.out (m2.more (Nat.le_succ _)) g2; obtain ⟨v, wm, rm, rd, GP⟩ := GN; obtain ⟨va, vc, rfl⟩ := owns_slice GP.row; have d0 : u2.cell? ⟨bk, 0, none⟩ = some (.int .i64 (trAt e b (i + 1)).th) := GP.blk.cell 0; have d1 : u2.cell? ⟨bk, 1, none⟩ = some (.int .i64 (trAt e b (i + 1)).tx) := GP.blk.cell 1; have d2 : u2.cell? ⟨bk, 2, none⟩ = some (.int .i64 (trAt e b (i + 1)).at_) := GP.blk.cell 2; have d3 : u2.cell? ⟨bk, 3, none⟩ = some (.int .i64 (trAt e b (i + 1)).st) := GP.blk.cell 3; have d4 : u2.cell? ⟨bk, 4, none⟩ = some (.int .i64 (trAt e b (i + 1)).b) := GP.blk.cell 4; have d5 : u2.cell? ⟨bk, 5, none⟩ = some (.int .i64 (trAt e b (i + 1)).en) := GP.blk.cell 5; have d6 : u2.cell? ⟨bk, 6, none⟩ = some (.int .i64 (trAt e b (i + 1)).re) := GP.blk.cell 6; have d7 : u2.cell? ⟨bk, 7, none⟩ = some (.bool (trAt e b (i + 1)).co) := GP.blk.cell 7; have d8 : u2.cell? ⟨bk, 8, none⟩ = some (.slice va (trAt e b (i + 1)).ac.length vc) := GP.blk.cell 8; obtain ⟨fn, tmps, assign, body, hy, hRd⟩ := HY.out xs (trAt e b (i + 1)) (.slice va (trAt e b (i + 1)).ac.length vc) u2 Fc (Fo' (e i).th) MID.2.2.1 GP.row (fun k hk => by rw [hFo]; exact GP.fv k hk) (fun k hc hg => (MID.2.2.2.2.2.2.2.2 k hg).1 hc) (fun k hk => (MID.2.2.2.2.2.2.2.2 k hk).2.2.1) (fun k hk => (MID.2.2.2.2.2.1 k hk).2) (by have := trAt_ac e b (i + 1); omega) (by have := HXL.out; omega); have hy' : (Instr.yield l #[.agg #[.int .i64 (trAt e b (i + 1)).th, .int .i64 (trAt e b (i + 1)).tx, .int .i64 (trAt e b (i + 1)).at_, .int .i64 (trAt e b (i + 1)).st, .int .i64 (trAt e b (i + 1)).b, .int .i64 (trAt e b (i + 1)).en, .int .i64 (trAt e b (i + 1)).re, .bool (trAt e b (i + 1)).co, .slice va (trAt e b (i + 1)).ac.length vc]]).run Try.prog u2 = .ok (.round l fn tmps assign body) u2 := hy; have MD := Lib.hid MID; have RD := Lib.hid hRd; clear hy MID hRd GP m2 g2 hFo) | gi_in)
          refine RD.out.mono ?_
          rintro e3 u3 ⟨rfl, Fc', hJ, hF, hO⟩
          have QQ := Lib.hid (mid_rel1 MD.out HO.out H56.out hlt hJ hF hO)
          clear hJ hF hO MD RD
          gi_wp2
          go_roundw
          case rel => exact ⟨i + 1, G', Fo', Fc', _, by omega, by go_num, QQ⟩
          case measure => simp [intOf]; omega
        · have HD := Lib.hid (show decide ((e i).k = 5 ∨ (e i).k = 6) = false by simpa using h56)
          have H56 := Lib.hid h56
          clear h56
          gi_wp2_with (first | (gi_at_lookup; refine wpListIn_look_mapG rfl _ _ 116 rfl 3 117 kInt Try.underlying116 _ (zeroP _) (Value.int .i64) W.heap.size i (fun th => (G th).map ptrV) rfl RO1.out.map (e i).th _ rfl (keyInt WE.out.th) (.pointer (some ⟨bk, 0, none⟩)) true (by rw [HG.out]; rfl) (by rw [HG.out]; rfl) ?_) | (refine ⟨trivial, ?_⟩; gi_at_call 56; refine (callsIn_wide.2 (does_any _ (Fo (e i).th) bk (trAt e b i) i i (e i) WE.out HK.out (fun k hk => by have := ELT.out k hk; simp; omega) (RO1.out.gng _ _ _ HG.out) HOB.out.2.2.2 (by have := ACL.out; omega) (by omega))).mono ?_; rw [HD.out]; rintro r u1 ⟨rfl, g1, o1⟩) | gi_in)
          go_roundw
          case rel =>
            obtain ⟨G', Fo', q⟩ := rel1_does HR1.out FIRM.out HO.out HG.out (by have := HK.out; omega) H56.out g1.out o1.out
            exact ⟨i + 1, G', Fo', Fc, xs, by omega, by go_num, q⟩
          case measure => simp [intOf]; omega
    · obtain rfl : i = len := by omega
      obtain ⟨D, hown, hD⟩ := HR.out.1.map
      have hD' : Says D G := hD
      have HWF := Lib.hid (show ∀ th b, opn e i th = some b → (Lit.int .i64 th).wf = true from fun th b h => by
        have := opn_spec e _ _ _ h
        obtain ⟨_, _, _, _, _, _, _, _, _, _, _, we⟩ := HL.out.at7 this.1
        rw [← this.2.2.1]
        exact we.th)
      have HD := Lib.hid hD'
      have HOWN := Lib.hid hown
      have hxl : xs.length ≤ i := by
        have := congrArg List.length HR.out.2.2.2.1
        rw [List.length_map, List.length_map] at this
        rw [this]
        exact ended_len e i
      clear hD hD' hown hxl
      gi_wp2_with (first | (gi_at_range; refine wpListIn_range_own _ rfl _ 116 rfl 3 117 kInt Try.underlying116 heldR W.heap.size i D rfl HOWN.out ?_; intro wq hrg0 hg0 hs0; have R2 := Lib.hid (rel2_start HR.out FIRM.out HWF.out HD.out hrg0 hg0 hs0); clear hrg0 hg0 hs0) | gi_in)
      go_frame
      generalize wr.heap.size = ro at R2 ⊢
      gi_loopw [10] (fun _ wq => ∃ (left : Lit → Bool) (cnt : Nat) (ys : List (Tr × Value)) (Fd : Nat → Prop) (rest : List Nat), Hid (Rel2 w0 W.heap.size ro i e J D G Fo wq left cnt ys Fd rest)) (fun _ wq => wq.rangeLeft W.heap.size ro)
      case atStart => exact ⟨_, _, _, _, _, R2⟩
      case round =>
        obtain ⟨left, cnt, ys, Fd, rest, RR⟩ := hrel
        gi_wp2_with (first | (gi_at_next; refine wpListIn_next_G rfl _ rfl W.heap.size ro i D G HD.out left RR.out.2.1 cnt rfl RR.out.1 ?_ ?_) | gi_in)
        · intro hl0
          gi_wp2
          go_end0
          obtain ⟨q1, q2, q3⟩ := rel2_done RR.out hl0
          exact ⟨rfl, ys, Fd, rest, RR.out.2.2.2.1, RR.out.2.2.2.2.2.2.2.2.1, RR.out.2.2.2.2.2.2.2.2.2.1, q1, q2, q3⟩
        · intro x bk t u2 cnt2 hGx hlx hrg2 hlt2 hg2 hs2 hen
          obtain ⟨qJ, qG, qA, qB, p, qo, qt⟩ := rel2_came RR.out FIRM.out hg2 hGx hlx
          obtain ⟨v, wm, rm, rd, GP⟩ := qG
          obtain ⟨va, vc, rfl⟩ := owns_slice GP.row
          have d0 : u2.cell? ⟨bk, 0, none⟩ = some (.int .i64 t.th) := GP.blk.cell 0; have d1 : u2.cell? ⟨bk, 1, none⟩ = some (.int .i64 t.tx) := GP.blk.cell 1; have d2 : u2.cell? ⟨bk, 2, none⟩ = some (.int .i64 t.at_) := GP.blk.cell 2; have d3 : u2.cell? ⟨bk, 3, none⟩ = some (.int .i64 t.st) := GP.blk.cell 3; have d4 : u2.cell? ⟨bk, 4, none⟩ = some (.int .i64 t.b) := GP.blk.cell 4; have d5 : u2.cell? ⟨bk, 5, none⟩ = some (.int .i64 t.en) := GP.blk.cell 5; have d6 : u2.cell? ⟨bk, 6, none⟩ = some (.int .i64 t.re) := GP.blk.cell 6; have d7 : u2.cell? ⟨bk, 7, none⟩ = some (.bool t.co) := GP.blk.cell 7; have d8 : u2.cell? ⟨bk, 8, none⟩ = some (.slice va t.ac.length vc) := GP.blk.cell 8
          obtain ⟨fn, tmps, assign, body, hy, hRd⟩ := HY.out ys t (.slice va t.ac.length vc) u2 Fd (Fo x) qJ GP.row GP.fv qA qB (fun k hk => by have := (RR.out.2.2.2.2.2.2.2.2.1 k hk).2; omega) (by rw [qt]; have := trAt_ac e p i; omega) (by
            have h1 := congrArg List.length RR.out.2.2.2.2.1
            rw [List.length_map, List.length_map, List.length_append] at h1
            have h2 := ended_len e i
            have h3 : rest.Perm ((List.range i).filter (fun b => decide (b ∈ rest))) := (List.perm_ext_iff_of_nodup RR.out.2.2.2.2.2.1 (List.nodup_range.filter _)).2 fun b => by
              simp only [List.mem_filter, List.mem_range, decide_eq_true_eq]
              refine ⟨fun h => ⟨?_, h⟩, fun h => h.2⟩
              obtain ⟨th, ho, _⟩ := (RR.out.2.2.2.2.2.2.1 b).1 h
              exact (opn_spec e _ _ _ ho).1
            have h4 := h3.length_eq
            have h5 := List.length_filter_le (fun b => decide (b ∈ rest)) (List.range i)
            rw [List.length_range] at h5
            omega)
          have hy' : (Instr.yield l #[.agg #[.int .i64 t.th, .int .i64 t.tx, .int .i64 t.at_, .int .i64 t.st, .int .i64 t.b, .int .i64 t.en, .int .i64 t.re, .bool t.co, .slice va t.ac.length vc]]).run Try.prog u2 = .ok (.round l fn tmps assign body) u2 := hy
          have RD := Lib.hid hRd
          have XX := Lib.hid (show ∀ v Fc' u3, J (ys ++ [(t, v)]) u3 Fc' → (∀ k, Fc' k → Fd k ∨ Fo x k ∨ (u2.heap.size ≤ k ∧ k < u3.heap.size)) → Only Fd u2 u3 → Rel2 w0 W.heap.size ro i e J D G Fo u3 (fun z => left z && !z.sameKey (.int .i64 x)) cnt2 (ys ++ [(t, v)]) Fc' (rest ++ [p]) from fun v Fc' u3 h1 h2 h3 => rel2_step RR.out FIRM.out hrg2 hg2 hGx hlx qo qt h1 h2 h3)
          have LT := Lib.hid hlt2
          clear hy hRd GP qJ qA qB qo qt hrg2 hg2 hs2 hlt2
          gi_wp2
          refine RD.out.mono ?_
          rintro e3 u3 ⟨rfl, Fc', hJ, hF, hO⟩
          have QQ := Lib.hid (XX.out _ _ _ hJ hF hO)
          clear hJ hF hO XX RD
          gi_wp2
          go_roundw
          case rel => exact ⟨_, _, _, _, _, QQ⟩
          case measure =>
            rw [QQ.out.1.left_eq, RR.out.1.left_eq]
            exact LT.out
end Go.Proofs.Ytdohepenmejcaaa.hs

/- A range over a function whose value has arguments bound (a method's value): the statement, and a round, by what the loop's record says. Of no program. -/
namespace Go.Proofs.Ytdohepenmejcaaa.base
open Go Go.RowKit

section
variable {F : Fence} {n : Nat} {P : Program}

/-- The record of the loop, ready, and the block for its rounds' deferred calls. -/
def LoopAt (l D : Nat) (rec : Loop) (W : World) : Prop := W.heap[l]? = some (.loop rec) ∧ W.heap[D]? = some (.deferred (some []))

theorem LoopAt.keep {l D : Nat} {rec : Loop} {W W' : World} (h : LoopAt l D rec W) (h1 : W'.heap[l]? = W.heap[l]?) (h2 : W'.heap[D]? = W.heap[D]?) : LoopAt l D rec W' := ⟨h1.trans h.1, h2.trans h.2⟩

theorem only_put (w : World) (l : Nat) (o : Obj) : Only (fun k => k = l) w (w.putObj l o) := ⟨rfl, rfl, rfl, by simp, fun k _ h => World.putObj_heap_other h⟩

/-- One round that goes on. -/
theorem yield_take {m l D fn : Nat} {tmps : Array Value} {ps : Array Tmp} {assign body : Code} {rec : Loop} {args : Array Value} {W : World} {R : Ending → World → Prop} (hrec : rec = { state := .ready, pending := none, fn, tmps, params := ps, assign, body, defers := D }) (hl : W.heap[l]? = some (.loop rec)) (hps : args.size = ps.size) (hfn : F.fn fn)
    (h : assign.wpIn (F.inRound l) m P (Exit.then (fun a₁ w₁ => w₁.heap[l]? = some (.loop rec) ∧ body.wpIn (F.inRound l) m P (fun ex _ W3 => ex = .normal ∧ W3.heap[l]? = some (.loop { rec with state := .busy }) ∧ R (.returned (.bool true)) (W3.putObj l (.loop rec))) a₁ (w₁.putObj l (.loop { rec with state := .busy }))) (fun _ _ _ => False))
      { tmps := (ps.zip args).foldl (fun t (p, v) => t.setIfInBounds p v) tmps, defers := [] } W) :
    YieldAt F m P l args W R := by
  subst hrec
  refine ⟨fn, _, assign, body, run_yield hl hps, roundIn_of_wpIn hfn (wpIn_mono h ?_)⟩
  intro e a w hq
  cases e with
  | normal =>
    obtain ⟨h1, h2⟩ := hq
    refine ⟨_, run_beginRound h1 rfl, wpIn_mono h2 ?_⟩
    rintro e3 a3 W3 ⟨rfl, h4, h5⟩
    exact ⟨_, _, run_endRound (P := P) none h4, h5⟩
  | ret => exact hq
  | exit id => exact hq
  | goto t => exact hq
  | panic c => exact hq
  | outgrown => exact hq

/-- The statement. -/
theorem wpIn_range_take {g : Operand} {ps : Array Tmp} {assign body : Code} {Q : Exit → Act → World → Prop} {a : Act} {w : World} (hro : F.round = none) (h1 : 1 ≤ n) {gf : Nat} {bnd lb : Array Value} (hg : a.eval g = .func (.func gf) bnd lb) (hFg : F.fn gf) (eg : ∀ args w, (callFunc gf args).run P w = .ok (.enter gf args) w)
    (H : ∀ fn, F.fn fn → ∀ rec : Loop, rec = { state := .ready, pending := none, fn, tmps := a.tmps, params := ps, assign, body, defers := w.heap.size } →
      CallsIn F (n - 1) P gf (bnd ++ #[.func (.yield (w.heap.size + 1)) #[] #[]] ++ lb) ((w.alloc (.deferred (some []))).alloc (.loop rec)) fun e W2 =>
        (∃ v, e = .returned v) ∧ LoopAt (w.heap.size + 1) w.heap.size rec W2 ∧ ∀ o', Q .normal { a with defers := { target := .collected w.heap.size, args := #[] } :: a.defers } (W2.putObj (w.heap.size + 1) o')) :
    (Code.rangeFunc g ps assign body).wpIn F n P Q a w := by
  refine wpIn_rangeFunc ?_
  intro fn hfn
  rw [hro]
  obtain ⟨rec, hrec⟩ : ∃ rec : Loop, rec = { state := .ready, pending := none, fn, tmps := a.tmps, params := ps, assign, body, defers := w.heap.size } := ⟨_, rfl⟩
  have HC := H fn hfn rec hrec
  refine ⟨w.heap.size + 1, [{ target := .collected w.heap.size, args := #[] }], (w.alloc (.deferred (some []))).alloc (.loop rec), { target := .fn (.func gf) lb, args := bnd ++ #[.func (.yield (w.heap.size + 1)) #[] #[]] }, (w.alloc (.deferred (some []))).alloc (.loop rec), gf,
    bnd ++ #[.func (.yield (w.heap.size + 1)) #[] #[]] ++ lb, (w.alloc (.deferred (some []))).alloc (.loop rec), ?_, ?_, ?_, ?_, fun _ => h1, ?_⟩
  · rw [hrec]; exact run_enterLoop_outer _ _ _ _ _
  · simp only [resolve, hg]
    simp [go_sem]
  · intro f' hf'; simp [Target.leads] at hf'; subst hf'; exact hFg
  · simp [invoke, go_sem, eg]
  · refine HC.mono ?_
    rintro e W2 ⟨⟨v, rfl⟩, hL, hQ⟩
    have hE := run_endLoop (P := P) hL.1 (by rw [hrec]; simp)
    have hp : rec.pending = none := by rw [hrec]
    rw [hp] at hE
    exact ⟨none, _, hE, hQ _⟩

/-- append, inside a fence. -/
theorem wpListIn_append_at (w : World) {ops : Array Oper} {rest : List Oper} {o : Oper} {a : Act} {Q : Exit → Act → World → Prop} {nF : Nat}
    (hgd : o.guard = none) (s x : Operand) (t : TypeId) (hop : o.op = Op.call { callee := Callee.builtin Builtin.append, args := #[s, x], argTypes := #[t, t] })
    (base : Nat) (e : TypeId) (i : TypeInfo) (z : Value) (size bytes : Nat) (h1 : P.underlying t = some (.slice e)) (h2 : P.info? e = some i) (h3 : i.zero = some z) (h4 : i.size = size) (h5 : i.bytes = bytes) (h6 : z.cells.size = size) (h7 : 0 < size)
    (v : Value) (n : Nat) (xs : List Value) (hs : a.eval s = v) (hown : w.ownsRow base e size v n xs)
    (ad : Addr) (m c : Nat) (news : List Value) (hx : a.eval x = .slice (some ad) m c) (hl : news.length = m * size) (hnews : ∀ j u, news[j]? = some u → w.cell? (ad.add j) = some u) (h1c : ∀ u ∈ news, u.oneCell' = true)
    (h63 : n + m ≤ maxLen) (hbytes : (n + m) * bytes ≤ 140737488355328) (hbase : base ≤ w.heap.size) (hm : 0 < m)
    (hK : ∀ g cap w', w'.ownsRow base e size (.slice (some ⟨g, 0, none⟩) (n + m) cap) (n + m) (xs ++ news) → w.grownBy w' v.ownBlock → (some g = v.ownBlock ∨ w.heap.size ≤ g) → wpListIn F nF P ops Q rest (a.put o.dst (.slice (some ⟨g, 0, none⟩) (n + m) cap)) w') :
    wpListIn F nF P ops Q (o :: rest) a w := by
  refine wpListIn_plain hgd fun K hK' => ?_
  obtain ⟨v', w', hrun, r1, r2, r3⟩ := run_append_at (P := P) w base t o.type e i z size bytes h1 h2 h3 h4 h5 h6 h7 v n xs hown ad m c news hl hnews h1c h63 hbytes hbase
  have r0 := r1
  rcases r0.2 with ⟨_, h0⟩ | ⟨g, cap, _, rfl, _⟩
  · omega
  unfold Oper.wpIn
  refine ⟨by simp [Oper.about, hop, resolve, Target.leads, Sem.run_pure], ?_⟩
  rw [Oper.semAt_plain F _ _ (by rw [hop]; intro c hc'; cases hc')]
  simp [execOp, hop, resolve, invoke, builtin, hs, hx, hrun, Result.andThen]
  exact hK' _ _ (hK g cap w' r1 r2 (by
    rcases r3 with h | ⟨k, h, hk⟩
    · exact .inl h
    · cases h; exact .inr hk))
end
end Go.Proofs.Ytdohepenmejcaaa.base

/- Whether a trace is right: may an event come? -/
namespace Go.Proofs.Ytdohepenmejcaaa.hs
open Go Go.RowKit Go.Proofs.Ytdohepenmejcaaa.base Go.Maps
set_option linter.unusedVariables false
set_option maxRecDepth 100000

set_option maxHeartbeats 1000000 in
theorem may_any (om tm n1 n2 : Nat) (f : Int → Option Value) (g : Int × Int → Option Value) (e : Ev) (o : Option Ev) (c : Int) (w : World) (he : Ev.Wf e) (hf : MapG Try.prog 3 (Value.int .i64) w om n1 f) (hg : MapG Try.prog 105 two w tm n2 g) (ho : f e.th = opnV o) (hc : (g (e.th, e.tx)).getD (.int .i64 0) = .int .i64 c) :
    Calls Try.prog 37 #[.agg #[.map (some om), .map (some tm)], .agg #[.int .i64 e.k, .int .i64 e.th, .int .i64 e.tx, .int .i64 e.at_, .int .i64 e.ob, .int .i64 e.va, .int .i64 e.re]] w fun r w' => r = .returned (.bool (mayB o c e)) ∧ Hid (w.grownBy w' none) := by
  obtain ⟨k, th, tx, at_, ob, va, re⟩ := e
  have M1 := Lib.hid hf
  have M2 := Lib.hid hg
  have E := Lib.hid he
  have C := Lib.hid hc
  obtain ⟨kl, hkl⟩ := keyTxn (x := (th, tx)) he.th he.tx
  have KL := Lib.hid hkl
  have O := Lib.hid ho
  clear hf hg he hc hkl ho
  dsimp only at *
  cases o with
  | none =>
    by_cases h1 : k = 1
    · subst h1
      go_enter Try.func37, Try.ntmps37
      go_wp2_with (first | (at_lookup; refine wpList_look_mapG rfl _ _ 81 rfl 3 58 kInt Try.underlying81 _ (zeroEv _) (Value.int .i64) om n1 f rfl (M1.out.grown (show World.grownBy w _ none from (by repeat (first | exact gb_refl _ _ | refine gb_drewN ?_ _ | refine gb_drew ?_ | refine gb_alloc ?_ _))) (by simp)) th _ rfl (keyInt E.out.th) (.agg #[.int .i64 0, .int .i64 0, .int .i64 0, .int .i64 0, .int .i64 0, .int .i64 0, .int .i64 0]) false (by rw [O.out]; rfl) (by rw [O.out]; rfl) ?_) | go_in)
      have hget : ∀ n, (Instr.lookup 82 (.map (some tm)) (.agg #[.int .i64 th, .int .i64 tx]) false).run Try.prog ((((w.alloc (.cells #[.map (some om), .map (some tm)] 84)).alloc (.cells #[.int .i64 1, .int .i64 th, .int .i64 tx, .int .i64 at_, .int .i64 ob, .int .i64 va, .int .i64 re] 58)).alloc (.cells #[.int .i64 0, .int .i64 0, .int .i64 0, .int .i64 0, .int .i64 0, .int .i64 0, .int .i64 0] 58)).drewN n) = .ok (.int .i64 c) ((((w.alloc (.cells #[.map (some om), .map (some tm)] 84)).alloc (.cells #[.int .i64 1, .int .i64 th, .int .i64 tx, .int .i64 at_, .int .i64 ob, .int .i64 va, .int .i64 re] 58)).alloc (.cells #[.int .i64 0, .int .i64 0, .int .i64 0, .int .i64 0, .int .i64 0, .int .i64 0, .int .i64 0] 58)).drewN n) := fun n => by
        have h := (M2.out.grown (show World.grownBy w ((((w.alloc (.cells #[.map (some om), .map (some tm)] 84)).alloc (.cells #[.int .i64 1, .int .i64 th, .int .i64 tx, .int .i64 at_, .int .i64 ob, .int .i64 va, .int .i64 re] 58)).alloc (.cells #[.int .i64 0, .int .i64 0, .int .i64 0, .int .i64 0, .int .i64 0, .int .i64 0, .int .i64 0] 58)).drewN n) none from (by repeat (first | exact gb_refl _ _ | refine gb_drewN ?_ _ | refine gb_drew ?_ | refine gb_alloc ?_ _))) (by simp)).get kTxn Try.underlying82 (zeroInt _) KL.out
        rw [C.out] at h
        exact h
      go_quiet (fail)
      go_wp2
      go_ret
      refine ⟨?_, (by repeat (first | exact gb_refl _ _ | refine gb_drewN ?_ _ | refine gb_drew ?_ | refine gb_alloc ?_ _))⟩
      simp [mayB, IntWalk.i64_left]
    have f1 : (k == 1) = false := by simp [h1]
    clear h1
    by_cases h7 : k = 7
    · subst h7
      go_enter Try.func37, Try.ntmps37
      go_wp2_with (first | (at_lookup; refine wpList_look_mapG rfl _ _ 81 rfl 3 58 kInt Try.underlying81 _ (zeroEv _) (Value.int .i64) om n1 f rfl (M1.out.grown (show World.grownBy w _ none from (by repeat (first | exact gb_refl _ _ | refine gb_drewN ?_ _ | refine gb_drew ?_ | refine gb_alloc ?_ _))) (by simp)) th _ rfl (keyInt E.out.th) (.agg #[.int .i64 0, .int .i64 0, .int .i64 0, .int .i64 0, .int .i64 0, .int .i64 0, .int .i64 0]) false (by rw [O.out]; rfl) (by rw [O.out]; rfl) ?_) | go_in)
      go_ret
      refine ⟨?_, (by repeat (first | exact gb_refl _ _ | refine gb_drewN ?_ _ | refine gb_drew ?_ | refine gb_alloc ?_ _))⟩
      simp [mayB]
    have f7 : (k == 7) = false := by simp [h7]
    by_cases h2 : k = 2
    · subst h2
      go_enter Try.func37, Try.ntmps37
      go_wp2_with (first | (at_lookup; refine wpList_look_mapG rfl _ _ 81 rfl 3 58 kInt Try.underlying81 _ (zeroEv _) (Value.int .i64) om n1 f rfl (M1.out.grown (show World.grownBy w _ none from (by repeat (first | exact gb_refl _ _ | refine gb_drewN ?_ _ | refine gb_drew ?_ | refine gb_alloc ?_ _))) (by simp)) th _ rfl (keyInt E.out.th) (.agg #[.int .i64 0, .int .i64 0, .int .i64 0, .int .i64 0, .int .i64 0, .int .i64 0, .int .i64 0]) false (by rw [O.out]; rfl) (by rw [O.out]; rfl) ?_) | go_in)
      go_ret
      refine ⟨?_, (by repeat (first | exact gb_refl _ _ | refine gb_drewN ?_ _ | refine gb_drew ?_ | refine gb_alloc ?_ _))⟩
      simp [mayB]
    have f2 : (k == 2) = false := by simp [h2]
    by_cases h3 : k = 3
    · subst h3
      go_enter Try.func37, Try.ntmps37
      go_wp2_with (first | (at_lookup; refine wpList_look_mapG rfl _ _ 81 rfl 3 58 kInt Try.underlying81 _ (zeroEv _) (Value.int .i64) om n1 f rfl (M1.out.grown (show World.grownBy w _ none from (by repeat (first | exact gb_refl _ _ | refine gb_drewN ?_ _ | refine gb_drew ?_ | refine gb_alloc ?_ _))) (by simp)) th _ rfl (keyInt E.out.th) (.agg #[.int .i64 0, .int .i64 0, .int .i64 0, .int .i64 0, .int .i64 0, .int .i64 0, .int .i64 0]) false (by rw [O.out]; rfl) (by rw [O.out]; rfl) ?_) | go_in)
      go_ret
      refine ⟨?_, (by repeat (first | exact gb_refl _ _ | refine gb_drewN ?_ _ | refine gb_drew ?_ | refine gb_alloc ?_ _))⟩
      simp [mayB]
    have f3 : (k == 3) = false := by simp [h3]
    by_cases h4 : k = 4
    · subst h4
      go_enter Try.func37, Try.ntmps37
      go_wp2_with (first | (at_lookup; refine wpList_look_mapG rfl _ _ 81 rfl 3 58 kInt Try.underlying81 _ (zeroEv _) (Value.int .i64) om n1 f rfl (M1.out.grown (show World.grownBy w _ none from (by repeat (first | exact gb_refl _ _ | refine gb_drewN ?_ _ | refine gb_drew ?_ | refine gb_alloc ?_ _))) (by simp)) th _ rfl (keyInt E.out.th) (.agg #[.int .i64 0, .int .i64 0, .int .i64 0, .int .i64 0, .int .i64 0, .int .i64 0, .int .i64 0]) false (by rw [O.out]; rfl) (by rw [O.out]; rfl) ?_) | go_in)
      go_ret
      refine ⟨?_, (by repeat (first | exact gb_refl _ _ | refine gb_drewN ?_ _ | refine gb_drew ?_ | refine gb_alloc ?_ _))⟩
      simp [mayB]
    have f4 : (k == 4) = false := by simp [h4]
    by_cases h5 : k = 5
    · subst h5
      go_enter Try.func37, Try.ntmps37
      go_wp2_with (first | (at_lookup; refine wpList_look_mapG rfl _ _ 81 rfl 3 58 kInt Try.underlying81 _ (zeroEv _) (Value.int .i64) om n1 f rfl (M1.out.grown (show World.grownBy w _ none from (by repeat (first | exact gb_refl _ _ | refine gb_drewN ?_ _ | refine gb_drew ?_ | refine gb_alloc ?_ _))) (by simp)) th _ rfl (keyInt E.out.th) (.agg #[.int .i64 0, .int .i64 0, .int .i64 0, .int .i64 0, .int .i64 0, .int .i64 0, .int .i64 0]) false (by rw [O.out]; rfl) (by rw [O.out]; rfl) ?_) | go_in)
      go_ret
      refine ⟨?_, (by repeat (first | exact gb_refl _ _ | refine gb_drewN ?_ _ | refine gb_drew ?_ | refine gb_alloc ?_ _))⟩
      simp [mayB]
    have f5 : (k == 5) = false := by simp [h5]
    by_cases h6 : k = 6
    · subst h6
      go_enter Try.func37, Try.ntmps37
      go_wp2_with (first | (at_lookup; refine wpList_look_mapG rfl _ _ 81 rfl 3 58 kInt Try.underlying81 _ (zeroEv _) (Value.int .i64) om n1 f rfl (M1.out.grown (show World.grownBy w _ none from (by repeat (first | exact gb_refl _ _ | refine gb_drewN ?_ _ | refine gb_drew ?_ | refine gb_alloc ?_ _))) (by simp)) th _ rfl (keyInt E.out.th) (.agg #[.int .i64 0, .int .i64 0, .int .i64 0, .int .i64 0, .int .i64 0, .int .i64 0, .int .i64 0]) false (by rw [O.out]; rfl) (by rw [O.out]; rfl) ?_) | go_in)
      go_ret
      refine ⟨?_, (by repeat (first | exact gb_refl _ _ | refine gb_drewN ?_ _ | refine gb_drew ?_ | refine gb_alloc ?_ _))⟩
      simp [mayB]
    have f6 : (k == 6) = false := by simp [h6]
    go_enter Try.func37, Try.ntmps37
    go_wp2_with (first | (at_lookup; refine wpList_look_mapG rfl _ _ 81 rfl 3 58 kInt Try.underlying81 _ (zeroEv _) (Value.int .i64) om n1 f rfl (M1.out.grown (show World.grownBy w _ none from (by repeat (first | exact gb_refl _ _ | refine gb_drewN ?_ _ | refine gb_drew ?_ | refine gb_alloc ?_ _))) (by simp)) th _ rfl (keyInt E.out.th) (.agg #[.int .i64 0, .int .i64 0, .int .i64 0, .int .i64 0, .int .i64 0, .int .i64 0, .int .i64 0]) false (by rw [O.out]; rfl) (by rw [O.out]; rfl) ?_) | go_in)
    go_ret
    refine ⟨?_, (by repeat (first | exact gb_refl _ _ | refine gb_drewN ?_ _ | refine gb_drew ?_ | refine gb_alloc ?_ _))⟩
    have hm : mayB none c ⟨k, th, tx, at_, ob, va, re⟩ = false := by simp only [mayB, f1, f7, Bool.false_and, Bool.or_self]
    rw [hm]
    rfl
  | some b =>
    by_cases h1 : k = 1
    · subst h1
      go_enter Try.func37, Try.ntmps37
      go_wp2_with (first | (at_lookup; refine wpList_look_mapG rfl _ _ 81 rfl 3 58 kInt Try.underlying81 _ (zeroEv _) (Value.int .i64) om n1 f rfl (M1.out.grown (show World.grownBy w _ none from (by repeat (first | exact gb_refl _ _ | refine gb_drewN ?_ _ | refine gb_drew ?_ | refine gb_alloc ?_ _))) (by simp)) th _ rfl (keyInt E.out.th) (.agg #[.int .i64 b.k, .int .i64 b.th, .int .i64 b.tx, .int .i64 b.at_, .int .i64 b.ob, .int .i64 b.va, .int .i64 b.re]) true (by rw [O.out]; rfl) (by rw [O.out]; rfl) ?_) | go_in)
      go_quiet (fail)
      go_wp2
      go_ret
      refine ⟨?_, (by repeat (first | exact gb_refl _ _ | refine gb_drewN ?_ _ | refine gb_drew ?_ | refine gb_alloc ?_ _))⟩
      simp [mayB]
    have f1 : (k == 1) = false := by simp [h1]
    clear h1
    by_cases h7 : k = 7
    · subst h7
      go_enter Try.func37, Try.ntmps37
      go_wp2_with (first | (at_lookup; refine wpList_look_mapG rfl _ _ 81 rfl 3 58 kInt Try.underlying81 _ (zeroEv _) (Value.int .i64) om n1 f rfl (M1.out.grown (show World.grownBy w _ none from (by repeat (first | exact gb_refl _ _ | refine gb_drewN ?_ _ | refine gb_drew ?_ | refine gb_alloc ?_ _))) (by simp)) th _ rfl (keyInt E.out.th) (.agg #[.int .i64 b.k, .int .i64 b.th, .int .i64 b.tx, .int .i64 b.at_, .int .i64 b.ob, .int .i64 b.va, .int .i64 b.re]) true (by rw [O.out]; rfl) (by rw [O.out]; rfl) ?_) | go_in)
      go_ret
      refine ⟨?_, (by repeat (first | exact gb_refl _ _ | refine gb_drewN ?_ _ | refine gb_drew ?_ | refine gb_alloc ?_ _))⟩
      simp [mayB]
    have f7 : (k == 7) = false := by simp [h7]
    by_cases h2 : k = 2
    · subst h2
      go_enter Try.func37, Try.ntmps37
      go_wp2_with (first | (at_lookup; refine wpList_look_mapG rfl _ _ 81 rfl 3 58 kInt Try.underlying81 _ (zeroEv _) (Value.int .i64) om n1 f rfl (M1.out.grown (show World.grownBy w _ none from (by repeat (first | exact gb_refl _ _ | refine gb_drewN ?_ _ | refine gb_drew ?_ | refine gb_alloc ?_ _))) (by simp)) th _ rfl (keyInt E.out.th) (.agg #[.int .i64 b.k, .int .i64 b.th, .int .i64 b.tx, .int .i64 b.at_, .int .i64 b.ob, .int .i64 b.va, .int .i64 b.re]) true (by rw [O.out]; rfl) (by rw [O.out]; rfl) ?_) | go_in)
      all_goals go_ret
      all_goals refine ⟨?_, (by repeat (first | exact gb_refl _ _ | refine gb_drewN ?_ _ | refine gb_drew ?_ | refine gb_alloc ?_ _))⟩
      all_goals simp_all [mayB]
    have f2 : (k == 2) = false := by simp [h2]
    by_cases h3 : k = 3
    · subst h3
      go_enter Try.func37, Try.ntmps37
      go_wp2_with (first | (at_lookup; refine wpList_look_mapG rfl _ _ 81 rfl 3 58 kInt Try.underlying81 _ (zeroEv _) (Value.int .i64) om n1 f rfl (M1.out.grown (show World.grownBy w _ none from (by repeat (first | exact gb_refl _ _ | refine gb_drewN ?_ _ | refine gb_drew ?_ | refine gb_alloc ?_ _))) (by simp)) th _ rfl (keyInt E.out.th) (.agg #[.int .i64 b.k, .int .i64 b.th, .int .i64 b.tx, .int .i64 b.at_, .int .i64 b.ob, .int .i64 b.va, .int .i64 b.re]) true (by rw [O.out]; rfl) (by rw [O.out]; rfl) ?_) | go_in)
      all_goals go_ret
      all_goals refine ⟨?_, (by repeat (first | exact gb_refl _ _ | refine gb_drewN ?_ _ | refine gb_drew ?_ | refine gb_alloc ?_ _))⟩
      all_goals simp_all [mayB]
    have f3 : (k == 3) = false := by simp [h3]
    by_cases h4 : k = 4
    · subst h4
      go_enter Try.func37, Try.ntmps37
      go_wp2_with (first | (at_lookup; refine wpList_look_mapG rfl _ _ 81 rfl 3 58 kInt Try.underlying81 _ (zeroEv _) (Value.int .i64) om n1 f rfl (M1.out.grown (show World.grownBy w _ none from (by repeat (first | exact gb_refl _ _ | refine gb_drewN ?_ _ | refine gb_drew ?_ | refine gb_alloc ?_ _))) (by simp)) th _ rfl (keyInt E.out.th) (.agg #[.int .i64 b.k, .int .i64 b.th, .int .i64 b.tx, .int .i64 b.at_, .int .i64 b.ob, .int .i64 b.va, .int .i64 b.re]) true (by rw [O.out]; rfl) (by rw [O.out]; rfl) ?_) | go_in)
      all_goals go_ret
      all_goals refine ⟨?_, (by repeat (first | exact gb_refl _ _ | refine gb_drewN ?_ _ | refine gb_drew ?_ | refine gb_alloc ?_ _))⟩
      all_goals simp_all [mayB]
    have f4 : (k == 4) = false := by simp [h4]
    by_cases h5 : k = 5
    · subst h5
      go_enter Try.func37, Try.ntmps37
      go_wp2_with (first | (at_lookup; refine wpList_look_mapG rfl _ _ 81 rfl 3 58 kInt Try.underlying81 _ (zeroEv _) (Value.int .i64) om n1 f rfl (M1.out.grown (show World.grownBy w _ none from (by repeat (first | exact gb_refl _ _ | refine gb_drewN ?_ _ | refine gb_drew ?_ | refine gb_alloc ?_ _))) (by simp)) th _ rfl (keyInt E.out.th) (.agg #[.int .i64 b.k, .int .i64 b.th, .int .i64 b.tx, .int .i64 b.at_, .int .i64 b.ob, .int .i64 b.va, .int .i64 b.re]) true (by rw [O.out]; rfl) (by rw [O.out]; rfl) ?_) | go_in)
      all_goals go_ret
      all_goals refine ⟨?_, (by repeat (first | exact gb_refl _ _ | refine gb_drewN ?_ _ | refine gb_drew ?_ | refine gb_alloc ?_ _))⟩
      all_goals simp_all [mayB]
    have f5 : (k == 5) = false := by simp [h5]
    by_cases h6 : k = 6
    · subst h6
      go_enter Try.func37, Try.ntmps37
      go_wp2_with (first | (at_lookup; refine wpList_look_mapG rfl _ _ 81 rfl 3 58 kInt Try.underlying81 _ (zeroEv _) (Value.int .i64) om n1 f rfl (M1.out.grown (show World.grownBy w _ none from (by repeat (first | exact gb_refl _ _ | refine gb_drewN ?_ _ | refine gb_drew ?_ | refine gb_alloc ?_ _))) (by simp)) th _ rfl (keyInt E.out.th) (.agg #[.int .i64 b.k, .int .i64 b.th, .int .i64 b.tx, .int .i64 b.at_, .int .i64 b.ob, .int .i64 b.va, .int .i64 b.re]) true (by rw [O.out]; rfl) (by rw [O.out]; rfl) ?_) | go_in)
      all_goals go_ret
      all_goals refine ⟨?_, (by repeat (first | exact gb_refl _ _ | refine gb_drewN ?_ _ | refine gb_drew ?_ | refine gb_alloc ?_ _))⟩
      all_goals simp_all [mayB]
    have f6 : (k == 6) = false := by simp [h6]
    go_enter Try.func37, Try.ntmps37
    go_wp2_with (first | (at_lookup; refine wpList_look_mapG rfl _ _ 81 rfl 3 58 kInt Try.underlying81 _ (zeroEv _) (Value.int .i64) om n1 f rfl (M1.out.grown (show World.grownBy w _ none from (by repeat (first | exact gb_refl _ _ | refine gb_drewN ?_ _ | refine gb_drew ?_ | refine gb_alloc ?_ _))) (by simp)) th _ rfl (keyInt E.out.th) (.agg #[.int .i64 b.k, .int .i64 b.th, .int .i64 b.tx, .int .i64 b.at_, .int .i64 b.ob, .int .i64 b.va, .int .i64 b.re]) true (by rw [O.out]; rfl) (by rw [O.out]; rfl) ?_) | go_in)
    go_ret
    refine ⟨?_, (by repeat (first | exact gb_refl _ _ | refine gb_drewN ?_ _ | refine gb_drew ?_ | refine gb_alloc ?_ _))⟩
    have hno : (decide (2 ≤ k) && decide (k ≤ 6)) = false := by
      by_cases g : 2 ≤ k ∧ k ≤ 6
      · simp at f1
        omega
      · simp
        omega
    have hm : mayB (some b) c ⟨k, th, tx, at_, ob, va, re⟩ = false := by simp only [mayB, hno, Bool.false_and]
    rw [hm]
    rfl
end Go.Proofs.Ytdohepenmejcaaa.hs

/- Whether a trace is right: what an event changes; Right itself. -/
namespace Go.Proofs.Ytdohepenmejcaaa.hs
open Go Go.RowKit Go.Proofs.Ytdohepenmejcaaa.base Go.Maps
set_option linter.unusedVariables false
set_option maxRecDepth 100000

noncomputable def enterF (f : Int → Option Value) (e : Ev) : Int → Option Value := if e.k = 1 then upd f e.th (some (.agg ⟨evc e⟩)) else if e.k = 5 ∨ e.k = 6 then upd f e.th none else f
noncomputable def enterG (g : Int × Int → Option Value) (e : Ev) : Int × Int → Option Value := if e.k = 1 then upd g (e.th, e.tx) (some (.int .i64 e.at_)) else g

set_option maxHeartbeats 1000000 in
theorem enter_any (om tm n1 n2 : Nat) (f : Int → Option Value) (g : Int × Int → Option Value) (e : Ev) (w : World) (he : Ev.Wf e) (hne : om ≠ tm) (hn1 : n1 < maxLen) (hn2 : n2 < maxLen) (hf : MapG Try.prog 3 (Value.int .i64) w om n1 f) (hg : MapG Try.prog 105 two w tm n2 g) :
    Calls Try.prog 38 #[.agg #[.map (some om), .map (some tm)], .agg #[.int .i64 e.k, .int .i64 e.th, .int .i64 e.tx, .int .i64 e.at_, .int .i64 e.ob, .int .i64 e.va, .int .i64 e.re]] w fun r w' => r = .returned (.tuple #[]) ∧ Hid (MapG Try.prog 3 (Value.int .i64) w' om (n1 + 1) (enterF f e)) ∧ Hid (MapG Try.prog 105 two w' tm (n2 + 1) (enterG g e)) ∧ Hid (Only (fun k => k = om ∨ k = tm) w w') := by
  obtain ⟨k, th, tx, at_, ob, va, re⟩ := e
  have M1 := Lib.hid hf
  have M2 := Lib.hid hg
  have E := Lib.hid he
  have NE := Lib.hid hne
  obtain ⟨kl, hkl⟩ := keyTxn (x := (th, tx)) he.th he.tx
  have KL := Lib.hid hkl
  clear hf hg he hkl hne
  dsimp only at *
  by_cases h1 : k = 1
  · subst h1
    have GA := Lib.hid (show World.grownBy w ((w.alloc (.cells #[.map (some om), .map (some tm)] 84)).alloc (.cells #[.int .i64 1, .int .i64 th, .int .i64 tx, .int .i64 at_, .int .i64 ob, .int .i64 va, .int .i64 re] 58)) none from (by repeat (first | exact gb_refl _ _ | refine gb_drewN ?_ _ | refine gb_drew ?_ | refine gb_alloc ?_ _)))
    have om_lt := M1.out.lt
    have tm_lt := M2.out.lt
    have BB := Lib.hid ((Blk.made w 84 #[.map (some om), .map (some tm)]).alloc (.cells #[.int .i64 1, .int .i64 th, .int .i64 tx, .int .i64 at_, .int .i64 ob, .int .i64 va, .int .i64 re] 58))
    have EB : Hid (Blk 58 ((w.alloc (.cells #[.map (some om), .map (some tm)] 84)).alloc (.cells #[.int .i64 1, .int .i64 th, .int .i64 tx, .int .i64 at_, .int .i64 ob, .int .i64 va, .int .i64 re] 58)) (w.heap.size + 1) #[.int .i64 1, .int .i64 th, .int .i64 tx, .int .i64 at_, .int .i64 ob, .int .i64 va, .int .i64 re]) := Lib.hid (by have := Blk.made (w.alloc (.cells #[.map (some om), .map (some tm)] 84)) 58 #[.int .i64 1, .int .i64 th, .int .i64 tx, .int .i64 at_, .int .i64 ob, .int .i64 va, .int .i64 re]; rwa [World.size_alloc] at this)
    go_enter Try.func38, Try.ntmps38
    go_wp2_with (first | (at_mapUpdate; (refine wpList_set_mapG rfl (.tmp 9) (.tmp 11) (.tmp 12) 81 rfl 3 58 kInt (Value.int .i64) vint_inj Try.underlying81 om n1 f rfl (M1.out.grown GA.out (by simp)) hn1 th _ rfl (keyInt E.out.th) _ rfl ?_); intro u1 m1 g1; have b1 := BB.out.grown g1 (by simp; omega); have b2 := EB.out.grown g1 (by simp; omega); have q0 := b1.cell 1; have q1 := b2.cell 1; have q2 := b2.cell 2; have q3 := b2.cell 3; have MM := Lib.hid ((M2.out.grown GA.out (by simp)).grown g1 (by simp; exact fun h => NE.out h.symm)); have M1B := Lib.hid m1; have G1 := Lib.hid g1; clear m1 g1 b1 b2) | (at_mapUpdate; (refine wpList_set_mapG rfl (.tmp 14) (.tmp 19) (.tmp 21) 82 rfl 105 3 kTxn two two_inj Try.underlying82 tm n2 g rfl MM.out hn2 (th, tx) _ rfl KL.out _ rfl ?_); intro u2 m2 g2; have M1C := Lib.hid (M1B.out.grown g2 (by simp; exact NE.out)); have M2C := Lib.hid m2; have G2 := Lib.hid g2; clear m2 g2) | go_in)
    go_end0
    refine ⟨rfl, ?_, ?_, ?_⟩
    · rw [enterF, if_pos rfl]; exact M1C.out
    · rw [enterG, if_pos rfl]; exact M2C.out
    · exact ((Only.none GA.out).trans (Only.of G1.out (fun _ e _ => .inl (by cases e; rfl)))).trans (Only.of G2.out (fun _ e _ => .inr (by cases e; rfl)))
  have f1 : (k == 1) = false := by simp [h1]
  by_cases h5 : k = 5
  · subst h5
    have GA := Lib.hid (show World.grownBy w ((w.alloc (.cells #[.map (some om), .map (some tm)] 84)).alloc (.cells #[.int .i64 5, .int .i64 th, .int .i64 tx, .int .i64 at_, .int .i64 ob, .int .i64 va, .int .i64 re] 58)) none from (by repeat (first | exact gb_refl _ _ | refine gb_drewN ?_ _ | refine gb_drew ?_ | refine gb_alloc ?_ _)))
    have om_lt := M1.out.lt
    have tm_lt := M2.out.lt
    have BB := Lib.hid ((Blk.made w 84 #[.map (some om), .map (some tm)]).alloc (.cells #[.int .i64 5, .int .i64 th, .int .i64 tx, .int .i64 at_, .int .i64 ob, .int .i64 va, .int .i64 re] 58))
    have EB : Hid (Blk 58 ((w.alloc (.cells #[.map (some om), .map (some tm)] 84)).alloc (.cells #[.int .i64 5, .int .i64 th, .int .i64 tx, .int .i64 at_, .int .i64 ob, .int .i64 va, .int .i64 re] 58)) (w.heap.size + 1) #[.int .i64 5, .int .i64 th, .int .i64 tx, .int .i64 at_, .int .i64 ob, .int .i64 va, .int .i64 re]) := Lib.hid (by have := Blk.made (w.alloc (.cells #[.map (some om), .map (some tm)] 84)) 58 #[.int .i64 5, .int .i64 th, .int .i64 tx, .int .i64 at_, .int .i64 ob, .int .i64 va, .int .i64 re]; rwa [World.size_alloc] at this)
    go_enter Try.func38, Try.ntmps38
    go_wp2_with (first | (at_delete; refine wpList_del_mapG rfl _ _ 81 3 rfl 58 kInt (Value.int .i64) vint_inj Try.underlying81 om n1 f rfl (M1.out.grown GA.out (by simp)) th _ rfl (keyInt E.out.th) ?_; intro u1 m1 g1; have MM := Lib.hid ((M2.out.grown GA.out (by simp)).grown g1 (by simp; exact fun h => NE.out h.symm)); have M1B := Lib.hid m1; have G1 := Lib.hid g1; clear m1 g1) | go_in)
    go_end0
    refine ⟨rfl, ?_, ?_, ?_⟩
    · rw [enterF, if_neg (by simp), if_pos (by simp)]; exact M1B.out.more (by omega)
    · rw [enterG, if_neg (by simp)]; exact MM.out.more (by omega)
    · exact (Only.none GA.out).trans (Only.of G1.out (fun _ e _ => .inl (by cases e; rfl)))
  have f5 : (k == 5) = false := by simp [h5]
  by_cases h6 : k = 6
  · subst h6
    have GA := Lib.hid (show World.grownBy w ((w.alloc (.cells #[.map (some om), .map (some tm)] 84)).alloc (.cells #[.int .i64 6, .int .i64 th, .int .i64 tx, .int .i64 at_, .int .i64 ob, .int .i64 va, .int .i64 re] 58)) none from (by repeat (first | exact gb_refl _ _ | refine gb_drewN ?_ _ | refine gb_drew ?_ | refine gb_alloc ?_ _)))
    have om_lt := M1.out.lt
    have tm_lt := M2.out.lt
    have BB := Lib.hid ((Blk.made w 84 #[.map (some om), .map (some tm)]).alloc (.cells #[.int .i64 6, .int .i64 th, .int .i64 tx, .int .i64 at_, .int .i64 ob, .int .i64 va, .int .i64 re] 58))
    have EB : Hid (Blk 58 ((w.alloc (.cells #[.map (some om), .map (some tm)] 84)).alloc (.cells #[.int .i64 6, .int .i64 th, .int .i64 tx, .int .i64 at_, .int .i64 ob, .int .i64 va, .int .i64 re] 58)) (w.heap.size + 1) #[.int .i64 6, .int .i64 th, .int .i64 tx, .int .i64 at_, .int .i64 ob, .int .i64 va, .int .i64 re]) := Lib.hid (by have := Blk.made (w.alloc (.cells #[.map (some om), .map (some tm)] 84)) 58 #[.int .i64 6, .int .i64 th, .int .i64 tx, .int .i64 at_, .int .i64 ob, .int .i64 va, .int .i64 re]; rwa [World.size_alloc] at this)
    go_enter Try.func38, Try.ntmps38
    go_wp2_with (first | (at_delete; refine wpList_del_mapG rfl _ _ 81 3 rfl 58 kInt (Value.int .i64) vint_inj Try.underlying81 om n1 f rfl (M1.out.grown GA.out (by simp)) th _ rfl (keyInt E.out.th) ?_; intro u1 m1 g1; have MM := Lib.hid ((M2.out.grown GA.out (by simp)).grown g1 (by simp; exact fun h => NE.out h.symm)); have M1B := Lib.hid m1; have G1 := Lib.hid g1; clear m1 g1) | go_in)
    go_end0
    refine ⟨rfl, ?_, ?_, ?_⟩
    · rw [enterF, if_neg (by simp), if_pos (by simp)]; exact M1B.out.more (by omega)
    · rw [enterG, if_neg (by simp)]; exact MM.out.more (by omega)
    · exact (Only.none GA.out).trans (Only.of G1.out (fun _ e _ => .inl (by cases e; rfl)))
  have f6 : (k == 6) = false := by simp [h6]
  have GA := Lib.hid (show World.grownBy w ((w.alloc (.cells #[.map (some om), .map (some tm)] 84)).alloc (.cells #[.int .i64 k, .int .i64 th, .int .i64 tx, .int .i64 at_, .int .i64 ob, .int .i64 va, .int .i64 re] 58)) none from (by repeat (first | exact gb_refl _ _ | refine gb_drewN ?_ _ | refine gb_drew ?_ | refine gb_alloc ?_ _)))
  have om_lt := M1.out.lt
  have tm_lt := M2.out.lt
  have BB := Lib.hid ((Blk.made w 84 #[.map (some om), .map (some tm)]).alloc (.cells #[.int .i64 k, .int .i64 th, .int .i64 tx, .int .i64 at_, .int .i64 ob, .int .i64 va, .int .i64 re] 58))
  have EB : Hid (Blk 58 ((w.alloc (.cells #[.map (some om), .map (some tm)] 84)).alloc (.cells #[.int .i64 k, .int .i64 th, .int .i64 tx, .int .i64 at_, .int .i64 ob, .int .i64 va, .int .i64 re] 58)) (w.heap.size + 1) #[.int .i64 k, .int .i64 th, .int .i64 tx, .int .i64 at_, .int .i64 ob, .int .i64 va, .int .i64 re]) := Lib.hid (by have := Blk.made (w.alloc (.cells #[.map (some om), .map (some tm)] 84)) 58 #[.int .i64 k, .int .i64 th, .int .i64 tx, .int .i64 at_, .int .i64 ob, .int .i64 va, .int .i64 re]; rwa [World.size_alloc] at this)
  go_enter Try.func38, Try.ntmps38
  go_wp2
  go_end0
  refine ⟨rfl, ?_, ?_, ?_⟩
  · rw [enterF, if_neg h1, if_neg (by rintro (h | h); exact h5 h; exact h6 h)]; exact (M1.out.grown GA.out (by simp)).more (by omega)
  · rw [enterG, if_neg h1]; exact (M2.out.grown GA.out (by simp)).more (by omega)
  · exact Only.none GA.out

/-- What the maps have, one event on. -/
theorem enterF_opn (e : Evs) (i : Nat) (x : Int) : enterF (fun th => opnV ((opn e i th).map e)) (e i) x = opnV ((opn e (i + 1) x).map e) := by
  unfold enterF
  rw [opn]
  by_cases h1 : (e i).k = 1
  · rw [if_pos h1, if_pos h1]
    by_cases hx : x = (e i).th
    · subst hx
      rw [upd_same, if_pos rfl]
      rfl
    · rw [upd_other _ _ hx, if_neg (fun h => hx h.symm)]
  · rw [if_neg h1, if_neg h1]
    by_cases h56 : (e i).k = 5 ∨ (e i).k = 6
    · rw [if_pos h56, if_pos h56]
      by_cases hx : x = (e i).th
      · subst hx
        rw [upd_same, if_pos rfl]
        rfl
      · rw [upd_other _ _ hx, if_neg (fun h => hx h.symm)]
    · rw [if_neg h56, if_neg h56]
      split <;> rfl
theorem enterG_cnt (e : Evs) (i : Nat) (g : Int × Int → Option Value) (h : ∀ th tx, (g (th, tx)).getD (.int .i64 0) = .int .i64 (cnt e i th tx)) (th tx : Int) : (enterG g (e i) (th, tx)).getD (.int .i64 0) = .int .i64 (cnt e (i + 1) th tx) := by
  unfold enterG
  rw [cnt]
  by_cases h1 : (e i).k = 1
  · rw [if_pos h1]
    by_cases hx : (th, tx) = ((e i).th, (e i).tx)
    · cases hx
      rw [upd_same, if_pos ⟨h1, rfl, rfl⟩]
      rfl
    · rw [upd_other _ _ hx, if_neg (fun h => hx (by rw [h.2.1, h.2.2]))]
      exact h th tx
  · rw [if_neg h1, if_neg (fun h => h1 h.1)]
    exact h th tx
theorem may_mayB (e : Evs) (i : Nat) : may e i = mayB ((opn e i (e i).th).map e) (cnt e i (e i).th (e i).tx) (e i) := by
  unfold may mayB
  cases opn e i (e i).th <;> rfl
end Go.Proofs.Ytdohepenmejcaaa.hs

/- Whether a trace is right: Right itself. -/
namespace Go.Proofs.Ytdohepenmejcaaa.hs
open Go Go.RowKit Go.Proofs.Ytdohepenmejcaaa.base Go.Maps
set_option linter.unusedVariables false
set_option maxRecDepth 100000

set_option maxHeartbeats 2000000 in
theorem right_any (a : Option Addr) (len cap : Nat) (e : Evs) (w : World) (hl : IsEvs w a len e) (hlen : len ≤ 1000000) :
    Calls Try.prog 23 #[.slice a len cap] w fun r w' => r = .returned (.bool (right e len)) ∧ Hid (w.grownBy w' none) := by
  have L := Lib.hid hl
  have HL := Lib.hid hlen
  have GA := Lib.hid (show World.grownBy w (((w.alloc (.map #[] 0)).alloc (.map #[] 0)).alloc (.cells #[.map (some w.heap.size), .map (some (w.heap.size + 1))] 84)) none from (by repeat (first | exact gb_refl _ _ | refine gb_drewN ?_ _ | refine gb_drew ?_ | refine gb_alloc ?_ _)))
  have MA : Hid (MapG Try.prog 3 (Value.int .i64) (((w.alloc (.map #[] 0)).alloc (.map #[] 0)).alloc (.cells #[.map (some w.heap.size), .map (some (w.heap.size + 1))] 84)) w.heap.size 0 (fun th => opnV ((opn e 0 th).map e))) := Lib.hid ((MapG.made w Try.prog 3 (Value.int .i64)).grown (r := none) (by repeat (first | exact gb_refl _ _ | refine gb_drewN ?_ _ | refine gb_drew ?_ | refine gb_alloc ?_ _)) (by simp))
  have MB : Hid (MapG Try.prog 105 two (((w.alloc (.map #[] 0)).alloc (.map #[] 0)).alloc (.cells #[.map (some w.heap.size), .map (some (w.heap.size + 1))] 84)) (w.heap.size + 1) 0 (fun _ => none)) := Lib.hid (by have := (MapG.made (w.alloc (.map #[] 0)) Try.prog 105 two).grown (w' := ((w.alloc (.map #[] 0)).alloc (.map #[] 0)).alloc (.cells #[.map (some w.heap.size), .map (some (w.heap.size + 1))] 84)) (r := none) (by repeat (first | exact gb_refl _ _ | refine gb_drewN ?_ _ | refine gb_drew ?_ | refine gb_alloc ?_ _)) (by simp); rwa [World.size_alloc] at this)
  have BA : Hid (Blk 84 (((w.alloc (.map #[] 0)).alloc (.map #[] 0)).alloc (.cells #[.map (some w.heap.size), .map (some (w.heap.size + 1))] 84)) (w.heap.size + 2) #[.map (some w.heap.size), .map (some (w.heap.size + 1))]) := Lib.hid (by have := Blk.made ((w.alloc (.map #[] 0)).alloc (.map #[] 0)) 84 #[.map (some w.heap.size), .map (some (w.heap.size + 1))]; rwa [World.size_alloc, World.size_alloc] at this)
  clear hl hlen
  have hmm := @run_makeMap Try.prog
  go_enter Try.func23, Try.ntmps23
  go_wp2_with fail
  generalize (((w.alloc (.map #[] 0)).alloc (.map #[] 0)).alloc (.cells #[.map (some w.heap.size), .map (some (w.heap.size + 1))] 84)) = wa at *
  generalize hom : w.heap.size = om at *
  have OM := Lib.hid hom
  clear hom
  go_loopw [11] (fun iv wr => ∃ (k : Nat) (g : Int × Int → Option Value), k ≤ len ∧ iv = .int .i64 k ∧ Hid (right e k = true) ∧ Hid (MapG Try.prog 3 (Value.int .i64) wr om k (fun th => opnV ((opn e k th).map e))) ∧ Hid (MapG Try.prog 105 two wr (om + 1) k g) ∧ Hid (∀ th tx, (g (th, tx)).getD (.int .i64 0) = .int .i64 (cnt e k th tx)) ∧ Hid (Blk 84 wr (om + 2) #[.map (some om), .map (some (om + 1))]) ∧ Hid (w.grownBy wr none)) (fun iv _ => (len - intOf iv).toNat)
  case atStart => exact ⟨0, fun _ => none, by omega, rfl, rfl, MA, MB, fun _ _ => rfl, BA, GA⟩
  case round =>
    obtain ⟨k, g, hk, rfl, HR, M1, M2, C, B, G⟩ := hrel
    have om_lt := M1.out.lt
    have tm_lt := M2.out.lt
    have b_lt := B.out.lt
    by_cases hlt : k < len
    · obtain ⟨b, off, rfl, hb, c0, c1, c2, c3, c4, c5, c6, we⟩ := (L.out.grown G.out).at7 hlt
      have WE := Lib.hid we
      clear we
      have hlt' : (k : Int) < (len : Int) := by omega
      have hlk : (k : Int) < 1000000 := by have := HL.out; omega
      have HM := Lib.hid (may_mayB e k)
      have q0 := B.out.cell 0
      have q1 := B.out.cell 1
      have G1 := Lib.hid (World.grownBy_alloc wr (.cells #[.int .i64 ((e k).k), .int .i64 ((e k).th), .int .i64 ((e k).tx), .int .i64 ((e k).at_), .int .i64 ((e k).ob), .int .i64 ((e k).va), .int .i64 ((e k).re)] 58) none)
      have E1 := Lib.hid (Blk.made wr 58 #[.int .i64 ((e k).k), .int .i64 ((e k).th), .int .i64 ((e k).tx), .int .i64 ((e k).at_), .int .i64 ((e k).ob), .int .i64 ((e k).va), .int .i64 ((e k).re)])
      have BB := Lib.hid B.out
      have CC := Lib.hid C.out
      have OMB := Lib.hid (show om + 2 < wr.heap.size from b_lt)
      clear B C
      cases HY : may e k with
      | true =>
        go_wp2_with (first | (go_at_call 37; refine (may_any om (om + 1) k k _ g (e k) ((opn e k (e k).th).map e) (cnt e k (e k).th (e k).tx) _ WE.out (M1.out.grown G1.out (by simp)) (M2.out.grown G1.out (by simp)) rfl (CC.out _ _)).mono ?_; rw [← HM.out, HY]; rintro r u1 ⟨rfl, g1⟩; have E2 := Lib.hid (E1.out.grown g1.out (by simp)); have B2 := Lib.hid ((BB.out.grown G1.out (by simp)).grown g1.out (by simp)); have p0 := B2.out.cell 0; have p1 := B2.out.cell 1; have r0 := E2.out.cell 0; have r1 := E2.out.cell 1; have r2 := E2.out.cell 2; have r3 := E2.out.cell 3; have r4 := E2.out.cell 4; have r5 := E2.out.cell 5; have r6 := E2.out.cell 6; have N1 := Lib.hid ((M1.out.grown G1.out (by simp)).grown g1.out (by simp)); have N2 := Lib.hid ((M2.out.grown G1.out (by simp)).grown g1.out (by simp))) | (go_at_call 38; refine (enter_any om (om + 1) k k _ g (e k) _ WE.out (by omega) (by unfold maxLen; have := HL.out; omega) (by unfold maxLen; have := HL.out; omega) N1.out N2.out).mono ?_; rintro r u2 ⟨rfl, m1, m2, g2⟩) | go_in)
        go_roundw
        case rel =>
          refine ⟨k + 1, enterG g (e k), by omega, by go_num, Lib.hid (by rw [right, HR.out, HY]; rfl), Lib.hid (m1.out.congr fun x _ _ => (enterF_opn e k x).symm), m2, Lib.hid (fun th tx => enterG_cnt e k g CC.out th tx), Lib.hid (B2.out.keep (g2.out.block _ B2.out.lt (by omega))), Lib.hid ?_⟩
          have g0 := gb_trans (gb_trans G.out G1.out) g1.out
          refine ⟨g2.out.os.trans g0.os, g2.out.tape.trans g0.tape, g2.out.output.trans g0.output, Nat.le_trans g0.size g2.out.size, fun i hi _ => (g2.out.block i (Nat.lt_of_lt_of_le hi g0.size) (by have := OM.out; omega)).trans (g0.block i hi (by simp))⟩
        case measure => simp [intOf]; omega
      | false =>
        go_wp2_with (first | (go_at_call 37; refine (may_any om (om + 1) k k _ g (e k) ((opn e k (e k).th).map e) (cnt e k (e k).th (e k).tx) _ WE.out (M1.out.grown G1.out (by simp)) (M2.out.grown G1.out (by simp)) rfl (CC.out _ _)).mono ?_; rw [← HM.out, HY]; rintro r u1 ⟨rfl, g1⟩; have E2 := Lib.hid (E1.out.grown g1.out (by simp)); have B2 := Lib.hid ((BB.out.grown G1.out (by simp)).grown g1.out (by simp)); have p0 := B2.out.cell 0; have p1 := B2.out.cell 1; have r0 := E2.out.cell 0; have r1 := E2.out.cell 1; have r2 := E2.out.cell 2; have r3 := E2.out.cell 3; have r4 := E2.out.cell 4; have r5 := E2.out.cell 5; have r6 := E2.out.cell 6; have N1 := Lib.hid ((M1.out.grown G1.out (by simp)).grown g1.out (by simp)); have N2 := Lib.hid ((M2.out.grown G1.out (by simp)).grown g1.out (by simp))) | go_in)
        go_ret
        refine ⟨?_, gb_trans (gb_trans G.out G1.out) g1.out⟩
        have hno : right e len = false := by
          cases h : right e len with
          | false => rfl
          | true => rw [right_may e h hlt] at HY; cases HY
        rw [hno]
        rfl
    · obtain rfl : k = len := by omega
      go_wp2
      go_ret
      exact ⟨by rw [HR.out]; rfl, G.out⟩
end Go.Proofs.Ytdohepenmejcaaa.hs

/- The tries that are asked for: hist's told. -/
namespace Go.Proofs.Ytdohepenmejcaaa.hs
open Go Go.RowKit Go.Proofs.Ytdohepenmejcaaa.base Go.Maps
set_option linter.unusedVariables false
set_option maxRecDepth 100000
attribute [local go_sem] Oper.semAt_some

def tvC (x : Tr × Value) : List Value := trC x.1 x.2
theorem tvC_len (x : Tr × Value) : (tvC x).length = 9 := rfl

/-- What told holds while the tries come. -/
structure JTP (l D : Nat) (rec : Loop) (bw : Nat) (fw : Value) (bt : Nat) (Cap : List (Nat × TypeId × List Value)) (ys : List (Tr × Value)) (W : World) (Fc : Nat → Prop) (a : Option Addr) (c : Nat) : Prop where
  box : Blk 73 W bt #[.slice a ys.length c]
  row : W.ownsRow 0 33 9 (.slice a ys.length c) ys.length (rows tvC ys)
  acc : ∀ x ∈ ys, W.ownsRow 0 54 6 x.2 x.1.ac.length (rows accC x.1.ac)
  wan : Blk 94 W bw #[fw]
  loop : LoopAt l D rec W
  fbt : Fc bt
  fbw : Fc bw
  fl : Fc l
  fD : Fc D
  frow : ∀ k, (Value.slice a ys.length c).ownBlock = some k → Fc k
  facc : ∀ x ∈ ys, ∀ k, x.2.ownBlock = some k → Fc k
  cap : ∀ x ∈ Cap, Blk x.2.1 W x.1 ⟨x.2.2⟩ ∧ Fc x.1
def JT (l D : Nat) (rec : Loop) (bw : Nat) (fw : Value) (bt : Nat) (Cap : List (Nat × TypeId × List Value)) (p : Tr → Bool) (pre : List (Tr × Value)) (W : World) (Fc : Nat → Prop) : Prop := ∃ a c, JTP l D rec bw fw bt Cap (pre.filter fun x => p x.1) W Fc a c

theorem JTP.keep {l D : Nat} {rec : Loop} {bw : Nat} {fw : Value} {bt : Nat} {Cap : List (Nat × TypeId × List Value)} {ys : List (Tr × Value)} {W W' : World} {Fc Fd : Nat → Prop} {a : Option Addr} {c : Nat} (h : JTP l D rec bw fw bt Cap ys W Fc a c) (hk : ∀ k, Fc k → W'.heap[k]? = W.heap[k]?) (hF : ∀ k, Fc k → Fd k) : JTP l D rec bw fw bt Cap ys W' Fd a c :=
  ⟨h.box.keep (hk _ h.fbt), ownsRow_keep h.row (fun k e => hk _ (h.frow k e)), fun x hx => ownsRow_keep (h.acc x hx) (fun k e => hk _ (h.facc x hx k e)), h.wan.keep (hk _ h.fbw), h.loop.keep (hk _ h.fl) (hk _ h.fD), hF _ h.fbt, hF _ h.fbw, hF _ h.fl, hF _ h.fD, fun k e => hF _ (h.frow k e), fun x hx k e => hF _ (h.facc x hx k e), fun x hx => ⟨(h.cap x hx).1.keep (hk _ (h.cap x hx).2), hF _ (h.cap x hx).2⟩⟩
theorem jt_firm (l D : Nat) (rec : Loop) (bw : Nat) (fw : Value) (bt : Nat) (Cap : List (Nat × TypeId × List Value)) (p : Tr → Bool) : Firm2 (JT l D rec bw fw bt Cap p) := by
  rintro pre W W' Fc ⟨a, c, h⟩ hk
  exact ⟨a, c, h.keep hk (fun _ h => h)⟩

theorem infoTry : (Try.prog.info? 33).map (fun i => (i.zero, i.size, i.bytes)) = some (some (.agg #[.int .i64 0, .int .i64 0, .int .i64 0, .int .i64 0, .int .i64 0, .int .i64 0, .int .i64 0, .bool false, .slice none 0 0]), 9, 88) := by kernel_rfl

/-- The function value that says which tries are wanted: it says p, wherever its captured variables lie. -/
def Wants (Cap : List (Nat × TypeId × List Value)) (gw : Nat) (cw : Array Value) (p : Tr → Bool) : Prop :=
  (∀ args w, (callFunc gw args).run Try.prog w = .ok (.enter gw args) w) ∧ ∀ u t v, (∀ x ∈ Cap, Blk x.2.1 u x.1 ⟨x.2.2⟩) → Calls Try.prog gw (#[.agg ⟨trC t v⟩] ++ cw) u fun r u' => r = .returned (.bool (p t)) ∧ Hid (u.grownBy u' none)

section
variable {l D : Nat} {rec : Loop} {bw : Nat} {fw : Value} {bt : Nat} {Cap : List (Nat × TypeId × List Value)} {p : Tr → Bool} {pre : List (Tr × Value)} {W W' : World} {Fc G : Nat → Prop} {t : Tr} {v : Value}

theorem jt_skip (h : JT l D rec bw fw bt Cap p pre W Fc) (hp : p t = false) (hk : ∀ k, Fc k → W'.heap[k]? = W.heap[k]?) (hF : ∀ k, Fc k → G k) : JT l D rec bw fw bt Cap p (pre ++ [(t, v)]) W' G := by
  obtain ⟨a, c, h⟩ := h
  refine ⟨a, c, ?_⟩
  have : (pre ++ [(t, v)]).filter (fun x => p x.1) = pre.filter (fun x => p x.1) := by simp [hp]
  rw [this]
  exact h.keep hk hF

theorem jt_add {a : Option Addr} {c : Nat} (hCap : ∀ x ∈ Cap, x.2.1 = 3) (h : JTP l D rec bw fw bt Cap (pre.filter fun x => p x.1) W Fc a c) (hp : p t = true) (hv : W'.ownsRow 0 54 6 v t.ac.length (rows accC t.ac)) (hvG : ∀ k, v.ownBlock = some k → G k)
    (ho : Only (fun k => k = bt ∨ k = l ∨ (Value.slice a (pre.filter fun x => p x.1).length c).ownBlock = some k) W W') (hlt : ∀ k, Fc k → k < W.heap.size) {g c' : Nat} (hb : Blk 73 W' bt #[.slice (some ⟨g, 0, none⟩) ((pre.filter fun x => p x.1).length + 1) c'])
    (hr : W'.ownsRow 0 33 9 (.slice (some ⟨g, 0, none⟩) ((pre.filter fun x => p x.1).length + 1) c') ((pre.filter fun x => p x.1).length + 1) (rows tvC (pre.filter fun x => p x.1) ++ tvC (t, v))) (hL : W'.heap[l]? = some (.loop rec)) (hF : ∀ k, Fc k → G k) (hg : G g) :
    JT l D rec bw fw bt Cap p (pre ++ [(t, v)]) W' G := by
  have e1 : (pre ++ [(t, v)]).filter (fun x => p x.1) = pre.filter (fun x => p x.1) ++ [(t, v)] := by simp [hp]
  refine ⟨some ⟨g, 0, none⟩, c', ?_⟩
  rw [e1]
  generalize pre.filter (fun x => p x.1) = ys at *
  have hcell : ∀ k ty cs, W.heap[k]? = some (.cells cs ty (0, 0)) → ty ≠ 73 → ty ≠ 33 → Fc k → W'.heap[k]? = W.heap[k]? := fun k ty cs hk h1 h2 hf => by
    refine ho.block k (hlt k hf) ?_
    rintro (e | e | e)
    · have := h.box
      unfold Blk at this
      rw [← e, hk] at this
      injection this with this
      injection this with _ this
      exact h1 this
    · have := h.loop.1
      rw [← e, hk] at this
      cases this
    · obtain ⟨ds, hd⟩ := ownsRow_type h.row e
      rw [hk] at hd
      injection hd with hd
      injection hd with _ hd
      exact h2 hd
  have hl2 : (ys ++ [(t, v)]).length = ys.length + 1 := by simp
  refine ⟨by rw [hl2]; exact hb, by rw [hl2, show rows tvC (ys ++ [(t, v)]) = rows tvC ys ++ tvC (t, v) from rows_snoc _ _]; exact hr, fun x hx => ?_, ?_, ⟨hL, ?_⟩, hF _ h.fbt, hF _ h.fbw, hF _ h.fl, hF _ h.fD, fun k e => by cases e; exact hg, fun x hx k e => ?_, fun x hx => ⟨?_, hF _ (h.cap x hx).2⟩⟩
  · rcases List.mem_append.1 hx with hx | hx
    · refine ownsRow_keep (h.acc x hx) (fun k e => ?_)
      obtain ⟨cs, hc⟩ := ownsRow_type (h.acc x hx) e
      exact hcell k _ cs hc (by decide) (by decide) (h.facc x hx k e)
    · have : x = (t, v) := by simpa using hx
      subst this
      exact hv
  · exact h.wan.keep (hcell bw _ _ h.wan (by decide) (by decide) h.fbw)
  · refine (ho.block D (hlt D h.fD) ?_).trans h.loop.2
    have hd := h.loop.2
    rintro (e | e | e)
    · have := h.box
      unfold Blk at this
      rw [← e, hd] at this
      cases this
    · have := h.loop.1
      rw [← e, hd] at this
      cases this
    · obtain ⟨ds, hd2⟩ := ownsRow_type h.row e
      rw [hd] at hd2
      cases hd2
  · rcases List.mem_append.1 hx with hx | hx
    · exact hF _ (h.facc x hx k e)
    · have : x = (t, v) := by simpa using hx
      subst this
      exact hvG k e
  · exact (h.cap x hx).1.keep (hcell _ _ _ (h.cap x hx).1 (by rw [hCap x hx]; decide) (by rw [hCap x hx]; decide) (h.cap x hx).2)
end
end Go.Proofs.Ytdohepenmejcaaa.hs

/- The order of tries: what slices.SortFunc asks (laid by hand: its bodies are those of the kit's own, the kernel compares them), and the two orders. -/
namespace Go.Proofs.Ytdohepenmejcaaa.hs
open Go Go.RowKit Go.Proofs.Ytdohepenmejcaaa.base Go.Maps Go.Shelf Go.Lib Go.Sort
set_option linter.unusedVariables false
set_option maxRecDepth 100000

def sortTryRen : Go.Shelf.Ren where
  f := fun x => match x with
    | 6 => 51
    | 15 => 58
    | 14 => 57
    | 28 => 75
    | 29 => 76
    | 20 => 67
    | 21 => 68
    | 22 => 69
    | 23 => 70
    | 24 => 71
    | 25 => 72
    | 26 => 73
    | 27 => 74
    | 46 => 79
    | 47 => 80
    | 48 => 81
    | 49 => 82
    | 50 => 83
    | 57 => 84
    | n => n
  t := fun x => match x with
    | 22 => 73
    | 24 => 33
    | 25 => 95
    | 3 => 3
    | 39 => 127
    | 0 => 0
    | 53 => 141
    | 55 => 143
    | 4 => 4
    | 46 => 134
    | 45 => 133
    | 50 => 138
    | 5 => 5
    | 9 => 9
    | 66 => 144
    | 70 => 148
    | 76 => 150
    | 77 => 151
    | n => n
  g := fun n => n

theorem sortTryLaid : SlLaysF0.n6 Try.prog sortTryRen where
  mixed := by kernel_rfl
  f6 := ⟨"slices.SortFunc[[]quarrel/hist.Try,quarrel/hist.Try]", by kernel_rfl, Try.func51.trans (congrArg some (by kernel_rfl))⟩
  f14 := ⟨"slices.pdqsortCmpFunc[quarrel/hist.Try]", by kernel_rfl, Try.func57.trans (congrArg some (by kernel_rfl))⟩
  f20 := ⟨"slices.insertionSortCmpFunc[quarrel/hist.Try]", by kernel_rfl, Try.func67.trans (congrArg some (by kernel_rfl))⟩
  f21 := ⟨"slices.heapSortCmpFunc[quarrel/hist.Try]", by kernel_rfl, Try.func68.trans (congrArg some (by kernel_rfl))⟩
  f22 := ⟨"slices.breakPatternsCmpFunc[quarrel/hist.Try]", by kernel_rfl, Try.func69.trans (congrArg some (by kernel_rfl))⟩
  f23 := ⟨"slices.choosePivotCmpFunc[quarrel/hist.Try]", by kernel_rfl, Try.func70.trans (congrArg some (by kernel_rfl))⟩
  f24 := ⟨"slices.reverseRangeCmpFunc[quarrel/hist.Try]", by kernel_rfl, Try.func71.trans (congrArg some (by kernel_rfl))⟩
  f25 := ⟨"slices.partialInsertionSortCmpFunc[quarrel/hist.Try]", by kernel_rfl, Try.func72.trans (congrArg some (by kernel_rfl))⟩
  f26 := ⟨"slices.partitionEqualCmpFunc[quarrel/hist.Try]", by kernel_rfl, Try.func73.trans (congrArg some (by kernel_rfl))⟩
  f27 := ⟨"slices.partitionCmpFunc[quarrel/hist.Try]", by kernel_rfl, Try.func74.trans (congrArg some (by kernel_rfl))⟩
  f46 := ⟨"slices.siftDownCmpFunc[quarrel/hist.Try]", by kernel_rfl, Try.func79.trans (congrArg some (by kernel_rfl))⟩
  f49 := ⟨"slices.medianAdjacentCmpFunc[quarrel/hist.Try]", by kernel_rfl, Try.func82.trans (congrArg some (by kernel_rfl))⟩
  f50 := ⟨"slices.medianCmpFunc[quarrel/hist.Try]", by kernel_rfl, Try.func83.trans (congrArg some (by kernel_rfl))⟩
  f57 := ⟨"slices.order2CmpFunc[quarrel/hist.Try]", by kernel_rfl, Try.func84.trans (congrArg some (by kernel_rfl))⟩
  f15 := Try.func58.trans (congrArg some (by kernel_rfl))
  f28 := Try.func75.trans (congrArg some (by kernel_rfl))
  f29 := Try.func76.trans (congrArg some (by kernel_rfl))
  f47 := Try.func80.trans (congrArg some (by kernel_rfl))
  f48 := Try.func81.trans (congrArg some (by kernel_rfl))
  t0 := Try.underlying0
  a0 := Try.isAgg0
  z0 := Try.sizeOf0
  v0 := Try.zeroValue0
  t3 := Try.underlying3
  a3 := Try.isAgg3
  z3 := Try.sizeOf3
  v3 := Try.zeroValue3
  t4 := Try.underlying4
  a4 := Try.isAgg4
  z4 := Try.sizeOf4
  v4 := Try.zeroValue4
  t5 := Try.underlying5
  a5 := Try.isAgg5
  z5 := Try.sizeOf5
  v5 := Try.zeroValue5
  t9 := Try.underlying9
  a9 := Try.isAgg9
  z9 := Try.sizeOf9
  v9 := Try.zeroValue9
  t22 := Try.underlying73
  a22 := Try.isAgg73
  z22 := Try.sizeOf73
  v22 := Try.zeroValue73
  t25 := Try.underlying95
  a25 := Try.isAgg95
  z25 := Try.sizeOf95
  v25 := Try.zeroValue95
  t39 := Try.underlying127
  a39 := Try.isAgg127
  z39 := Try.sizeOf127
  v39 := Try.zeroValue127
  t45 := Try.underlying133
  a45 := Try.isAgg133
  z45 := Try.sizeOf133
  v45 := Try.zeroValue133
  t46 := Try.underlying134
  a46 := Try.isAgg134
  z46 := Try.sizeOf134
  v46 := Try.zeroValue134
  t50 := Try.underlying138
  a50 := Try.isAgg138
  z50 := Try.sizeOf138
  v50 := Try.zeroValue138
  t53 := Try.underlying141
  a53 := Try.isAgg141
  z53 := Try.sizeOf141
  v53 := Try.zeroValue141
  t55 := Try.underlying143
  a55 := Try.isAgg143
  z55 := Try.sizeOf143
  v55 := Try.zeroValue143
  t66 := Try.underlying144
  a66 := Try.isAgg144
  z66 := Try.sizeOf144
  v66 := Try.zeroValue144
  t70 := Try.underlying148
  a70 := Try.isAgg148
  z70 := Try.sizeOf148
  v70 := Try.zeroValue148
  t76 := Try.underlying150
  a76 := Try.isAgg150
  z76 := Try.sizeOf150
  v76 := Try.zeroValue150
  t77 := Try.underlying151
  a77 := Try.isAgg151
  z77 := Try.sizeOf151
  v77 := Try.zeroValue151

def cmpIntRen : Go.Shelf.Ren where
  f := fun x => match x with
    | 5 => 52
    | 7 => 59
    | n => n
  t := fun x => match x with
    | 22 => 3
    | 3 => 3
    | 4 => 4
    | n => n
  g := fun n => n

theorem cmpIntLaid : SlLaysC2.n5 Try.prog cmpIntRen where
  mixed := by kernel_rfl
  f5 := ⟨"cmp.Compare[int]", by kernel_rfl, Try.func52.trans (congrArg some (by kernel_rfl))⟩
  f7 := ⟨"cmp.isNaN[int]", by kernel_rfl, Try.func59.trans (congrArg some (by kernel_rfl))⟩
  t3 := Try.underlying3
  a3 := Try.isAgg3
  z3 := Try.sizeOf3
  v3 := Try.zeroValue3
  t4 := Try.underlying4
  a4 := Try.isAgg4
  z4 := Try.sizeOf4
  v4 := Try.zeroValue4
  t22 := Try.underlying3
  a22 := Try.isAgg3
  z22 := Try.sizeOf3
  v22 := Try.zeroValue3

theorem aggTry : ∀ w, (isAgg (sortTryRen.t 24)).run Try.prog w = .ok true w := Try.isAgg33

theorem sizeTry : ∀ w, (Go.sizeOf (sortTryRen.t 24)).run Try.prog w = .ok 9 w := Try.sizeOf33

def tvI (x : Tr × Value) : Tr × Value := (x.1, if x.2.oneCell' = true then x.2 else .slice none 0 0)
/-- A try's cells, whatever its accesses are. -/
def encT (x : Tr × Value) : List Value := tvC (tvI x)

theorem encT_len (x : Tr × Value) : (encT x).length = 9 := rfl

theorem encT_one (x : Tr × Value) : ∀ v ∈ encT x, v.oneCell' = true := by
  intro v hv
  simp [encT, tvC, trC, tvI] at hv
  rcases hv with rfl | rfl | rfl | rfl | rfl | rfl | rfl | rfl | rfl
  all_goals first | rfl | (split <;> first | assumption | rfl)

theorem encT_slice (t : Tr) (a : Option Addr) (n c : Nat) : encT (t, .slice a n c) = tvC (t, .slice a n c) := rfl

theorem ltOf_cmp {α : Type} (f : α → Int) (x y : α) : ltOf (fun x y : α => Lib.compareInt (f x) (f y)) x y = decide (f x < f y) := by
  unfold ltOf Lib.compareInt
  by_cases h1 : f x < f y
  · simp [h1]
  · by_cases h2 : f y < f x <;> simp [h1, h2]

theorem swo_cmp {α : Type} (f : α → Int) : SWO (ltOf fun x y : α => Lib.compareInt (f x) (f y)) where
  irrefl x := by rw [ltOf_cmp]; simp
  trans x y z h1 h2 := by rw [ltOf_cmp] at *; simp at *; omega
  ntrans x y z h1 h2 := by rw [ltOf_cmp] at *; simp at *; omega

set_option maxHeartbeats 1000000 in
theorem byEnd_any : ∀ (x y : Tr × Value) (W : World), Calls Try.prog 47 #[.agg ⟨encT x⟩, .agg ⟨encT y⟩] W fun e w' => e = .returned (.int .i64 (Lib.compareInt x.1.en y.1.en)) ∧ ∃ q os', w' = grow (W.drewN q) os' := by
  intro x y W
  have hcon := fun W' => AnyG.cmp_Compare_int cmpIntLaid x.1.en y.1.en W'
  change ∀ W', Calls Try.prog 52 _ _ _ at hcon
  generalize Lib.compareInt x.1.en y.1.en = r at hcon ⊢
  show Calls Try.prog 47 #[.agg #[.int .i64 x.1.th, .int .i64 x.1.tx, .int .i64 x.1.at_, .int .i64 x.1.st, .int .i64 x.1.b, .int .i64 x.1.en, .int .i64 x.1.re, .bool x.1.co, (tvI x).2], .agg #[.int .i64 y.1.th, .int .i64 y.1.tx, .int .i64 y.1.at_, .int .i64 y.1.st, .int .i64 y.1.b, .int .i64 y.1.en, .int .i64 y.1.re, .bool y.1.co, (tvI y).2]] W _
  generalize (tvI x).2 = vx
  generalize (tvI y).2 = vy
  go_enter Try.func47, Try.ntmps47
  go_wp2_with (go_at_call 52; refine (hcon _).mono ?_; rintro e w' ⟨rfl, rfl⟩)
  go_ret
  exact ⟨rfl, 0, _, by rw [alloc_eq_grow, alloc_eq_grow, grow_grow]; rfl⟩

theorem byEnd_lays (blk off size : Nat) (w : World) : CmpLays Try.prog 47 #[] encT 9 (fun x y : Tr × Value => Lib.compareInt x.1.en y.1.en) blk off size w :=
  fun _ _ _ _ x y => byEnd_any x y _

/-- What the order that told is given must do: it goes by a number. -/
def Orders (go : Nat) (f : Tr → Int) : Prop := (∀ args w, (callFunc go args).run Try.prog w = .ok (.enter go args) w) ∧ ∀ blk off size w, CmpLays Try.prog go #[] encT 9 (fun x y : Tr × Value => Lib.compareInt (f x.1) (f y.1)) blk off size w

theorem byEnd_orders : Orders 47 Tr.en := ⟨enters_of Try.func47 (by kernel_rfl) rfl, byEnd_lays⟩

/-- The tries of ys lie there. -/
def IsTries (w : World) (a : Option Addr) (ys : List (Tr × Value)) : Prop :=
  (ys = [] ∨ ∃ g, a = some ⟨g, 0, none⟩ ∧ g < w.heap.size ∧ ∀ i x, ys[i]? = some x → ∀ j u, (tvC x)[j]? = some u → w.cell? ⟨g, i * 9 + j, none⟩ = some u) ∧
  ∀ x ∈ ys, w.ownsRow 0 54 6 x.2 x.1.ac.length (rows accC x.1.ac)

theorem IsTries.grown {w w' : World} {a : Option Addr} {ys : List (Tr × Value)} (h : IsTries w a ys) (g : w.grownBy w' none) : IsTries w' a ys := by
  refine ⟨?_, fun x hx => ownsRow_keep (h.2 x hx) (fun k e => g.block k ((h.2 x hx).lt k e).2 (by simp))⟩
  rcases h.1 with h1 | ⟨b, rfl, hb, hc⟩
  · exact .inl h1
  · exact .inr ⟨b, rfl, Nat.lt_of_lt_of_le hb g.size, fun i x hx j u hu => g.cell (hc i x hx j u hu) (by simp)⟩

/-- A row's elements, in their cells. -/
theorem holdsK_of {w : World} {g n cap : Nat} {ys : List (Tr × Value)} (hs : ∀ x ∈ ys, ∃ a m c, x.2 = .slice a m c) (hn : n = ys.length) (h : w.ownsRow 0 33 9 (.slice (some ⟨g, 0, none⟩) n cap) n (rows tvC ys)) : HoldsK encT 9 w g 0 ys.toArray := by
  intro t ht
  simp only [size_flatK, List.size_toArray] at ht
  rw [get_flatK _ _ _ _ (by simpa using ht)]
  have h1 : t / 9 < ys.length := by omega
  have h2 : t % 9 < 9 := Nat.mod_lt _ (by omega)
  have e1 : ys.toArray[t / 9]! = ys[t / 9] := by simp [h1]
  rw [e1]
  obtain ⟨va, vm, vc, hx⟩ := hs _ (List.getElem_mem h1)
  have e2 : encT ys[t / 9] = tvC ys[t / 9] := by
    generalize ys[t / 9] = x at hx
    obtain ⟨tt, v⟩ := x
    dsimp only at hx
    subst hx
    rfl
  rw [e2]
  have h3 := rows_get tvC_len ys (t / 9) (t % 9) ys[t / 9] (List.getElem?_eq_getElem h1) h2
  have e3 : t / 9 * 9 + t % 9 = t := Nat.div_add_mod' t 9
  rw [e3] at h3
  have h4 : (tvC ys[t / 9])[t % 9]? = some ((tvC ys[t / 9])[t % 9]!) := by
    rw [List.getElem?_eq_getElem (by rw [tvC_len]; exact h2), getElem!_pos _ _ (by rw [tvC_len]; exact h2)]
  rw [h4] at h3
  have h5 := h.cells (g := g) rfl t _ h3
  rw [add_eq] at h5
  obtain ⟨cs, hc⟩ := ownsRow_type h (k := g) rfl
  exact ⟨h5, Blk.free (t := 33) hc _⟩

theorem sortW_block {w : World} {g n : Nat} {d : Array (Tr × Value)} {os : Array Obj} {k : Nat} (hk : k < w.heap.size) (hne : k ≠ g) : (sortWorldK encT 9 w g 0 n d os).heap[k]? = w.heap[k]? := by
  unfold sortWorldK grow putRowK putRow mapBlock
  simp only
  rw [Array.getElem?_append_left (by simp [Sort.ahead]; exact hk)]
  rw [Array.getElem?_modify]
  rw [if_neg (fun e => hne e.symm)]
  rfl

theorem sortW_only {w : World} {g n : Nat} {d : Array (Tr × Value)} {os : Array Obj} : Only (fun k => k = g) w (sortWorldK encT 9 w g 0 n d os) :=
  ⟨rfl, rfl, rfl, by simp [sortWorldK, grow, putRowK, putRow, mapBlock, Sort.ahead], fun k hk hn => sortW_block hk hn⟩
end Go.Proofs.Ytdohepenmejcaaa.hs

/- The tries that are asked for: hist's told. -/
namespace Go.Proofs.Ytdohepenmejcaaa.hs
open Go Go.RowKit Go.Proofs.Ytdohepenmejcaaa.base Go.Maps Go.Shelf Go.Lib Go.Sort
set_option linter.unusedVariables false
set_option maxRecDepth 100000
attribute [local go_sem] Oper.semAt_some

/-- The tries, and their accesses, lie in blocks from B on. -/
def NewT (B : Nat) (a : Option Addr) (ys : List (Tr × Value)) : Prop := (∀ b off, a = some ⟨b, off, none⟩ → B ≤ b) ∧ ∀ x ∈ ys, ∀ k, x.2.ownBlock = some k → B ≤ k

set_option maxHeartbeats 4000000 in
theorem told_right (w0 w : World) (a : Option Addr) (len cap : Nat) (e : Evs) (hl : IsEvs w0 a len e) (hB : Below w0.heap.size w0 w) (hr : right e len = true) (hlen : len ≤ 10000) (gw : Nat) (cw : Array Value) (p : Tr → Bool) (Cap : List (Nat × TypeId × List Value)) (hCap : ∀ x ∈ Cap, x.2.1 = 3 ∧ w0.heap.size ≤ x.1 ∧ Blk x.2.1 w x.1 ⟨x.2.2⟩) (hw : Wants Cap gw cw p) (go : Nat) (f : Tr → Int) (hgo : Orders go f) :
    Calls Try.prog 45 #[.slice a len cap, .func (.func gw) #[] cw, .func (.func go) #[] #[]] w fun r w' => ∃ a c ys, r = .returned (.slice a ys.length c) ∧ Hid (IsTries w' a ys) ∧ Hid ((ys.map Prod.fst).Perm ((tries e len).filter p)) ∧ Hid ((ys.map Prod.fst).Pairwise (fun x y => ¬ f y < f x)) ∧ Hid (Below w0.heap.size w0 w') ∧ Hid (NewT w0.heap.size a ys) := by
  have HL := Lib.hid hl
  have HB := Lib.hid hB
  have HLEN := Lib.hid hlen
  have HW := Lib.hid hw
  have HC := Lib.hid hCap
  have HRT := Lib.hid hr
  have HGO := Lib.hid hgo
  obtain ⟨eg, wt⟩ := hw
  have WT := Lib.hid wt
  obtain ⟨i0, hi0, hz00, hz10, hz20⟩ := info_parts infoTry
  have hi := Lib.hid hi0
  have hz0 := Lib.hid hz00
  have hz1 := Lib.hid hz10
  have hz2 := Lib.hid hz20
  clear hl hlen hCap hr hB wt hgo hi0 hz00 hz10 hz20
  refine (callsIn_wide (n := 5)).1 ?_
  refine callsIn_of_wp_marks Try.func45 rfl trivial ?_ rfl
  simp only [Try.ntmps45, List.size_toArray, List.length_cons, List.length_nil, Nat.reduceAdd, Nat.reduceSub, Array.replicate_succ, Array.replicate_zero, List.push_toArray, List.append_toArray, List.nil_append, List.cons_append]
  have GA := Lib.hid (World.grownBy_alloc w (.cells #[.func (.func gw) #[] cw] 94) none)
  have BW := Lib.hid (Blk.made w 94 #[.func (.func gw) #[] cw])
  gi_wp2_with (first | (refine ⟨trivial, ?_⟩; gi_at_call 23; refine (callsIn_wide.2 (right_any a len cap e _ ((HL.out.below HB.out (Nat.le_refl _)).grown GA.out) (by have := HLEN.out; omega))).mono ?_; rw [HRT.out]; rintro r u1 ⟨rfl, g1⟩) | gi_in)
  have G1 := Lib.hid (gb_trans GA.out g1.out)
  have BW1 := Lib.hid (BW.out.grown g1.out (by simp))
  have BT := Lib.hid (Blk.made u1 73 #[.slice none 0 0])
  have G2 := Lib.hid (gb_alloc G1.out (.cells #[.slice none 0 0] 73))
  have BW2 := Lib.hid (BW1.out.alloc (.cells #[.slice none 0 0] 73))
  have HSZ := Lib.hid (show u1.heap.size < (u1.alloc (.cells #[.slice none 0 0] 73)).heap.size by simp)
  have HW1 := Lib.hid (show w.heap.size < u1.heap.size by have := g1.out.size; simp at this; omega)
  generalize u1.alloc (.cells #[.slice none 0 0] 73) = u2 at *
  generalize u1.heap.size = bt at *
  clear g1 G1 GA BW BW1
  refine wpIn_range_take rfl (by omega) (gf := 50) (bnd := #[.slice a len cap]) (lb := #[]) rfl trivial (enters_of Try.func50 (by kernel_rfl) rfl) ?_
  intro fn hfn rec hrec
  have HREC := Lib.hid hrec
  clear hrec
  have HT : Takes 3 (u2.heap.size + 1) (JT (u2.heap.size + 1) u2.heap.size rec w.heap.size (.func (.func gw) #[] cw) bt Cap p) := by
    intro pre t v W Fc G hJ hrow hvG hd hGl hFl hac hpre
    obtain ⟨va, vc, rfl⟩ := owns_slice hrow
    obtain ⟨ya, yc, J⟩ := hJ
    have HJ := Lib.hid J
    have HROW := Lib.hid hrow
    have HVG := Lib.hid hvG
    have HD := Lib.hid hd
    have HGL := Lib.hid hGl
    have FLT : Hid (∀ k, Fc k → k < W.heap.size) := Lib.hid hFl
    show YieldAt Fence.wide 3 Try.prog _ #[.agg #[.int .i64 t.th, .int .i64 t.tx, .int .i64 t.at_, .int .i64 t.st, .int .i64 t.b, .int .i64 t.en, .int .i64 t.re, .bool t.co, .slice va t.ac.length vc]] W _
    refine yield_take HREC.out J.loop.1 rfl hfn ?_
    clear J hrow hvG hd hGl hFl
    gi_wp2
    refine ⟨(Below.heap_alloc W _ _ (FLT.out _ HJ.out.fl)).trans HJ.out.loop.1, ?_⟩
    obtain ⟨W4, hW4⟩ : ∃ W4, W4 = (W.alloc (.cells #[.int .i64 t.th, .int .i64 t.tx, .int .i64 t.at_, .int .i64 t.st, .int .i64 t.b, .int .i64 t.en, .int .i64 t.re, .bool t.co, .slice va t.ac.length vc] 33)).putObj (u2.heap.size + 1) (.loop { rec with state := .busy }) := ⟨_, rfl⟩
    rw [← hW4]
    have lt1 := FLT.out _ HJ.out.fl
    have K4 : Hid (∀ k, k < W.heap.size → k ≠ u2.heap.size + 1 → W4.heap[k]? = W.heap[k]?) := Lib.hid (fun k hk hne => by rw [hW4, World.putObj_heap_other hne]; exact Below.heap_alloc W _ k hk)
    have TB : Hid (Blk 33 W4 W.heap.size #[.int .i64 t.th, .int .i64 t.tx, .int .i64 t.at_, .int .i64 t.st, .int .i64 t.b, .int .i64 t.en, .int .i64 t.re, .bool t.co, .slice va t.ac.length vc]) := Lib.hid (by
      show W4.heap[_]? = _
      rw [hW4, World.putObj_heap_other (by omega)]
      exact Blk.made W _ _)
    have L4 : Hid (W4.heap[u2.heap.size + 1]? = some (.loop { rec with state := .busy })) := Lib.hid (by rw [hW4]; exact World.putObj_heap_same (by simp; omega))
    have S4 : Hid (W4.heap.size = W.heap.size + 1) := Lib.hid (by rw [hW4]; simp)
    have O4 : Hid (W4.os = W.os ∧ W4.tape = W.tape ∧ W4.output = W.output) := Lib.hid (by rw [hW4]; exact ⟨rfl, rfl, rfl⟩)
    have ncl : ∀ k ty cs, W.heap[k]? = some (.cells cs ty (0, 0)) → k ≠ u2.heap.size + 1 := fun k ty cs hk e => by
      have := HJ.out.loop.1
      rw [← e, hk] at this
      cases this
    have B4 := Lib.hid (HJ.out.box.keep (K4.out _ (FLT.out _ HJ.out.fbt) (ncl _ _ _ HJ.out.box)))
    have N4 := Lib.hid (HJ.out.wan.keep (K4.out _ (FLT.out _ HJ.out.fbw) (ncl _ _ _ HJ.out.wan)))
    have R4 := Lib.hid (ownsRow_keep HJ.out.row (fun k e => K4.out k (FLT.out _ (HJ.out.frow k e)) (by obtain ⟨cs, hc⟩ := ownsRow_type HJ.out.row e; exact ncl _ _ _ hc)))
    have C4 : Hid (∀ x ∈ Cap, Blk x.2.1 W4 x.1 ⟨x.2.2⟩) := Lib.hid (fun x hx => (HJ.out.cap x hx).1.keep (K4.out _ (FLT.out _ (HJ.out.cap x hx).2) (ncl _ _ _ (HJ.out.cap x hx).1)))
    clear hW4
    have n0 : W4.cell? ⟨w.heap.size, 0, none⟩ = some (.func (.func gw) #[] cw) := N4.out.cell 0
    have d0 : W4.cell? ⟨W.heap.size, 0, none⟩ = some (.int .i64 t.th) := TB.out.cell 0; have d1 : W4.cell? ⟨W.heap.size, 1, none⟩ = some (.int .i64 t.tx) := TB.out.cell 1; have d2 : W4.cell? ⟨W.heap.size, 2, none⟩ = some (.int .i64 t.at_) := TB.out.cell 2; have d3 : W4.cell? ⟨W.heap.size, 3, none⟩ = some (.int .i64 t.st) := TB.out.cell 3; have d4 : W4.cell? ⟨W.heap.size, 4, none⟩ = some (.int .i64 t.b) := TB.out.cell 4; have d5 : W4.cell? ⟨W.heap.size, 5, none⟩ = some (.int .i64 t.en) := TB.out.cell 5; have d6 : W4.cell? ⟨W.heap.size, 6, none⟩ = some (.int .i64 t.re) := TB.out.cell 6; have d7 : W4.cell? ⟨W.heap.size, 7, none⟩ = some (.bool t.co) := TB.out.cell 7; have d8 : W4.cell? ⟨W.heap.size, 8, none⟩ = some (.slice va t.ac.length vc) := TB.out.cell 8
    have OA : Hid (Only (fun k => k = u2.heap.size + 1) W W4) := Lib.hid ⟨O4.out.1, O4.out.2.1, O4.out.2.2, by rw [S4.out]; omega, fun k hk hn => K4.out k hk hn⟩
    obtain ⟨n, hn⟩ : ∃ n, n = (pre.filter fun x => p x.1).length := ⟨_, rfl⟩
    have HN := Lib.hid hn
    rw [← hn] at B4 R4
    have hn1 : n < 100000 := by rw [hn]; exact Nat.lt_of_le_of_lt (List.length_filter_le _ _) hpre
    clear hn
    cases hp : p t with
    | true =>
      have HP := Lib.hid hp
      gi_wp2_with (first | (refine ⟨trivial, ?_⟩; gi_at_fn gw; refine (CallsIn.inRound _ (callsIn_wide.2 (WT.out W4 t (.slice va t.ac.length vc) C4.out))).mono ?_; rw [HP.out]; rintro r u3 ⟨rfl, g3⟩; have B5 := Lib.hid (B4.out.grown g3.out (by simp)); have T5 := Lib.hid (TB.out.grown g3.out (by simp)); have R5 := Lib.hid (ownsRow_keep R4.out (fun k e => g3.out.block k (R4.out.lt k e).2 (by simp))); have L5 := Lib.hid ((g3.out.block _ (by rw [S4.out]; omega) (by simp)).trans L4.out); have b5 : u3.cell? ⟨bt, 0, none⟩ = some (.slice ya n yc) := B5.out.cell 0; have x0 : u3.cell? ⟨W.heap.size, 0, none⟩ = some (.int .i64 t.th) := T5.out.cell 0; have x1 : u3.cell? ⟨W.heap.size, 1, none⟩ = some (.int .i64 t.tx) := T5.out.cell 1; have x2 : u3.cell? ⟨W.heap.size, 2, none⟩ = some (.int .i64 t.at_) := T5.out.cell 2; have x3 : u3.cell? ⟨W.heap.size, 3, none⟩ = some (.int .i64 t.st) := T5.out.cell 3; have x4 : u3.cell? ⟨W.heap.size, 4, none⟩ = some (.int .i64 t.b) := T5.out.cell 4; have x5 : u3.cell? ⟨W.heap.size, 5, none⟩ = some (.int .i64 t.en) := T5.out.cell 5; have x6 : u3.cell? ⟨W.heap.size, 6, none⟩ = some (.int .i64 t.re) := T5.out.cell 6; have x7 : u3.cell? ⟨W.heap.size, 7, none⟩ = some (.bool t.co) := T5.out.cell 7; have x8 : u3.cell? ⟨W.heap.size, 8, none⟩ = some (.slice va t.ac.length vc) := T5.out.cell 8) | (gi_at_builtin; refine wpListIn_append_at _ rfl (.tmp 18) (.tmp 20) 73 rfl 0 33 i0 (.agg #[.int .i64 0, .int .i64 0, .int .i64 0, .int .i64 0, .int .i64 0, .int .i64 0, .int .i64 0, .bool false, .slice none 0 0]) 9 88 Try.underlying73 hi.out hz0.out hz1.out hz2.out rfl (by decide) (.slice ya n yc) n (rows tvC (pre.filter fun x => p x.1)) rfl (R5.out.alloc _) ⟨u3.heap.size, 0, none⟩ 1 1 (tvC (t, .slice va t.ac.length vc)) rfl rfl (new_cells u3 _ _) (by intro u hu; simp [tvC, trC] at hu; rcases hu with rfl | rfl | rfl | rfl | rfl | rfl | rfl | rfl | rfl <;> rfl) (by unfold maxLen; omega) (by omega) (by simp) (by decide) ?_; intro g' c' w5 ho hg hv; have nbt : Hid ((Value.slice ya n yc).ownBlock ≠ some bt) := Lib.hid (by intro e; obtain ⟨cs, hc⟩ := ownsRow_type R5.out e; have h9 := B5.out; unfold Blk at h9; rw [hc] at h9; injection h9 with h9; injection h9 with _ h9; exact absurd h9 (by decide)); have B6 := Lib.hid ((B5.out.alloc (.cells ⟨tvC (t, .slice va t.ac.length vc)⟩ 33)).grown hg (fun e => nbt.out e.symm)); have b6 : w5.cell? ⟨bt, 0, none⟩ = some (.slice ya n yc) := B6.out.cell 0; have f6 := B6.out.free 0; have HO := Lib.hid ho; have HG := Lib.hid hg; have HV := Lib.hid hv; clear ho hg hv) | gi_in)
      have hl5 : u2.heap.size + 1 < u3.heap.size := (Array.getElem?_eq_some_iff.1 L5.out).1
      have nl : ∀ k ty cs, u3.heap[k]? = some (.cells cs ty (0, 0)) → u2.heap.size + 1 ≠ k := fun k ty cs hk e => by
        have := L5.out
        rw [e, hk] at this
        cases this
      have nlb : u2.heap.size + 1 ≠ bt := nl _ _ _ B5.out
      have nlr : ∀ k, (Value.slice ya n yc).ownBlock = some k → u2.heap.size + 1 ≠ k := fun k e => by
        obtain ⟨cs, hc⟩ := ownsRow_type R5.out e
        exact nl _ _ _ hc
      have s35 := HG.out.size
      simp at s35
      have sW := OA.out.size
      have s3 := g3.out.size
      have L6 : (w5.setCell ⟨bt, 0, none⟩ (.slice (some ⟨g', 0, none⟩) (n + 1) c')).heap[u2.heap.size + 1]? = some (.loop { rec with state := .busy }) :=
        (Below.heap_setCell _ _ _ _ nlb).trans ((HG.out.block _ (by simp; omega) (by intro e; exact nlr _ e.symm rfl)).trans ((Below.heap_alloc u3 _ _ hl5).trans L5.out))
      have hgl : g' ≠ u2.heap.size + 1 := by
        rcases HV.out with h | h
        · exact fun e => nlr g' h.symm e.symm
        · simp at h; omega
      have hgb : g' ≠ bt := by
        rcases HV.out with h | h
        · exact fun e => nbt.out (by rw [← h, e])
        · have := B5.out.lt
          simp at h
          omega
      have OZ : Only (fun k => k = bt ∨ k = u2.heap.size + 1 ∨ (Value.slice ya n yc).ownBlock = some k) W ((w5.setCell ⟨bt, 0, none⟩ (.slice (some ⟨g', 0, none⟩) (n + 1) c')).putObj (u2.heap.size + 1) (.loop rec)) :=
        ((((OA.out.mono (fun k _ h => .inr (.inl h))).trans (Only.none (gb_alloc g3.out _))).trans (Only.of HG.out (fun k e _ => .inr (.inr e)))).trans (Only.of (gb_setB (gb_refl w5 _) _) (fun k e _ => .inl (by cases e; rfl)))).trans ((only_put _ _ _).mono (fun k _ h => .inr (.inl h)))
      have OZF : Only Fc W ((w5.setCell ⟨bt, 0, none⟩ (.slice (some ⟨g', 0, none⟩) (n + 1) c')).putObj (u2.heap.size + 1) (.loop rec)) := OZ.mono (fun k _ hk => by
        rcases hk with rfl | rfl | hk
        · exact HJ.out.fbt
        · exact HJ.out.fl
        · exact HJ.out.frow k (by rw [← HN.out]; exact hk))
      refine ⟨L6, fun k => Fc k ∨ G k ∨ (W.heap.size ≤ k ∧ k < w5.heap.size), jt_add (a := ya) (c := yc) (g := g') (c' := c') (fun x hx => (HC.out x hx).1) HJ.out HP.out ?_ (fun k e => .inr (.inl (HVG.out k e))) (by rw [← HN.out]; exact OZ) FLT.out ?_ ?_ (World.putObj_heap_same (by simp [World.setCell]; omega)) (fun k hk => .inl hk) ?_, fun k hk => hk, OZF⟩
      · exact ownsRow_keep HROW.out (fun k e => OZF.block k (HROW.out.lt k e).2 (fun hf => HD.out k hf (HVG.out k e)))
      · rw [← HN.out]
        exact (B6.out.set 0 (.slice (some ⟨g', 0, none⟩) (n + 1) c')).keep (World.putObj_heap_other (fun e => nlb e.symm))
      · rw [← HN.out]
        exact ownsRow_keep HO.out (fun k e => by cases e; exact (World.putObj_heap_other hgl).trans (Below.heap_setCell _ _ _ _ hgb))
      · rcases HV.out with h | h
        · exact .inl (HJ.out.frow g' (by rw [← HN.out]; exact h.symm))
        · exact .inr (.inr ⟨by simp at h; omega, (HO.out.lt g' rfl).2⟩)
    | false =>
      have HP := Lib.hid hp
      gi_wp2_with (first | (refine ⟨trivial, ?_⟩; gi_at_fn gw; refine (CallsIn.inRound _ (callsIn_wide.2 (WT.out W4 t (.slice va t.ac.length vc) C4.out))).mono ?_; rw [HP.out]; rintro r u3 ⟨rfl, g3⟩) | gi_in)
      have L5 := (g3.out.block _ (by rw [S4.out]; omega) (by simp)).trans L4.out
      have OZ : Only (fun k => k = u2.heap.size + 1) W (u3.putObj (u2.heap.size + 1) (.loop rec)) := (OA.out.trans (Only.none g3.out)).trans (only_put _ _ _)
      refine ⟨L5, fun k => Fc k ∨ G k ∨ (W.heap.size ≤ k ∧ k < u3.heap.size), jt_skip ⟨ya, yc, HJ.out⟩ HP.out (fun k hk => ?_) (fun k hk => .inl hk), fun k hk => hk, OZ.mono (fun k _ hk => by rw [hk]; exact HJ.out.fl)⟩
      by_cases he : k = u2.heap.size + 1
      · subst he
        rw [World.putObj_heap_same (Array.getElem?_eq_some_iff.1 L5).1]
        exact HJ.out.loop.1.symm
      · exact OZ.block k (FLT.out k hk) he
  have hW1 := HW1.out
  have hSZ := HSZ.out
  have HT2 := Lib.hid HT
  clear HT
  refine (tries_in 4 (by omega) (u2.heap.size + 1) a len cap e _ (jt_firm _ _ _ _ _ _ _ _) HT2.out w0 ((u2.alloc (.deferred (some []))).alloc (.loop rec)) HL.out HRT.out HLEN.out (fun k => (w.heap.size ≤ k ∧ k < u2.heap.size + 2) ∨ ∃ x ∈ Cap, x.1 = k)
    ⟨none, 0, ⟨(BT.out.alloc _).alloc _, World.ownsRow_nil _ _ _ _, by simp, (BW2.out.alloc _).alloc _, ⟨?_, ?_⟩, .inl ⟨by omega, by omega⟩, .inl ⟨by omega, by omega⟩, .inl ⟨by omega, by omega⟩, .inl ⟨by omega, by omega⟩, (by intro k e; cases e), (by simp), fun x hx => ⟨((HC.out x hx).2.2.grown (gb_alloc (gb_alloc G2.out _) _) (by simp)), .inr ⟨x, hx, rfl⟩⟩⟩⟩ ?_ ?_).mono ?_
  · have := World.alloc_heap_new (u2.alloc (.deferred (some []))) (.loop rec)
    rwa [World.size_alloc] at this
  · exact (Below.heap_alloc _ _ _ (by simp)).trans (World.alloc_heap_new u2 _)
  · rintro k (hk | ⟨x, hx, rfl⟩)
    · have := HB.out.size
      simp
      omega
    · have h1 := (HC.out x hx).2.2.lt
      exact ⟨(HC.out x hx).2.1, by simp; omega⟩
  · exact bl_none HB.out (gb_alloc (gb_alloc G2.out _) _)
  rintro r W' ⟨rfl, xs, Fc, rest, ⟨ya, yc, J⟩, hFc, hBel, hnd, hrest, hxs⟩
  refine ⟨⟨_, rfl⟩, J.loop, fun o' => ?_⟩
  have hperm : (xs.map Prod.fst).Perm (tries e len) := by
    rw [hxs]
    exact (all_perm e len HRT.out rest hnd hrest).map _
  obtain ⟨ys, hys⟩ : ∃ ys, ys = xs.filter fun x => p x.1 := ⟨_, rfl⟩
  have hp2 : (ys.map Prod.fst).Perm ((tries e len).filter p) := by
    rw [hys]
    have h3 := hperm.filter p
    rw [List.filter_map] at h3
    exact h3
  rw [← hys] at J
  have HPERM := Lib.hid hp2
  obtain ⟨W5, hW5⟩ : ∃ W5, W5 = W'.putObj (u2.heap.size + 1) o' := ⟨_, rfl⟩
  rw [← hW5]
  have hl5 : u2.heap.size + 1 < W'.heap.size := (Array.getElem?_eq_some_iff.1 J.loop.1).1
  have ncl : ∀ (k : Nat) (ty : TypeId) (cs : Array Value), W'.heap[k]? = some (.cells cs ty (0, 0)) → W5.heap[k]? = W'.heap[k]? := fun k ty cs hk => by
    rw [hW5]
    refine World.putObj_heap_other (fun e => ?_)
    have := J.loop.1
    rw [← e, hk] at this
    cases this
  have BT5 := Lib.hid (J.box.keep (ncl _ _ _ J.box))
  have RO5 := Lib.hid (ownsRow_keep J.row (fun k e => by obtain ⟨cs, hc⟩ := ownsRow_type J.row e; exact ncl _ _ _ hc))
  have AC5 : Hid (∀ x ∈ ys, W5.ownsRow 0 54 6 x.2 x.1.ac.length (rows accC x.1.ac)) := Lib.hid (fun x hx => ownsRow_keep (J.acc x hx) (fun k e => by obtain ⟨cs, hc⟩ := ownsRow_type (J.acc x hx) e; exact ncl _ _ _ hc))
  have BE5 : Hid (Below w0.heap.size w0 W5) := Lib.hid (by rw [hW5]; exact (only_put W' _ o').below hBel hBel.size (fun k hk => by rw [hk]; have := HB.out.size; omega))
  have HGB : Hid (∀ k, (Value.slice ya ys.length yc).ownBlock = some k → w0.heap.size ≤ k) := Lib.hid (fun k e => (hFc k (J.frow k e)).1)
  have HGA : Hid (∀ x ∈ ys, ∀ k, x.2.ownBlock = some k → w0.heap.size ≤ k) := Lib.hid (fun x hx k e => (hFc k (J.facc x hx k e)).1)
  have D5 : Hid (W5.heap[u2.heap.size]? = some (.deferred (some []))) := Lib.hid (by rw [hW5, World.putObj_heap_other (by omega)]; exact J.loop.2)
  have hlen2 : ys.length ≤ 10000 := by
    have h4 := hp2.length_eq
    rw [List.length_map] at h4
    rw [h4]
    refine Nat.le_trans (List.length_filter_le _ _) ?_
    unfold tries begins
    rw [List.length_map]
    refine Nat.le_trans (List.length_filter_le _ _) ?_
    rw [List.length_range]
    exact HLEN.out
  have t0 : W5.cell? ⟨bt, 0, none⟩ = some (.slice ya ys.length yc) := BT5.out.cell 0
  clear J hxs hrest hnd hperm hys hp2 hW5 ncl HT2 HREC
  have ldef : ∀ (k : Nat) (ty : TypeId) (cs : Array Value), W5.heap[k]? = some (.cells cs ty (0, 0)) → k ≠ u2.heap.size := fun k ty cs hk e => by
    have := D5.out
    rw [← e, hk] at this
    cases this
  have LDEF := Lib.hid ldef
  clear ldef
  cases hys : ys with
  | nil =>
    subst hys
    have hnil := fun fv W => AnyF.slices_SortFunc_none sortTryLaid ya yc fv W
    change ∀ fv W, Calls Try.prog 51 _ _ _ at hnil
    have t0' : W5.cell? ⟨bt, 0, none⟩ = some (.slice ya 0 yc) := t0
    have HNIL := Lib.hid hnil
    clear hnil t0
    gi_wp2_with (first | (refine ⟨trivial, ?_⟩; gi_at_call 51; refine (callsIn_wide.2 (HNIL.out _ _)).mono ?_; rintro r u7 ⟨rfl, rfl⟩) | gi_in)
    refine ⟨by simp, .inl ⟨_, _, rfl, run_takeDeferred D5.out, ?_⟩⟩
    exact ⟨_, results_tmp rfl _ _ _, ya, yc, [], rfl, ⟨.inl rfl, by simp⟩, HPERM.out, Lib.hid List.Pairwise.nil, (only_put _ _ _).below BE5.out BE5.out.size (fun k hk => by rw [hk]; have := HB.out.size; omega), ⟨fun b off e => HGB.out b (by rw [e]; rfl), by simp⟩⟩
  | cons y0 yt =>
    obtain ⟨g, rfl⟩ : ∃ g, ya = some ⟨g, 0, none⟩ := by
      rcases RO5.out.2 with ⟨_, h⟩ | ⟨g, _, _, h, _⟩
      · rw [hys] at h; cases h
      · injection h with h; exact ⟨g, h⟩
    have HH := holdsK_of (fun x hx => by obtain ⟨a, c, h⟩ := owns_slice (AC5.out x hx); exact ⟨a, _, c, h⟩) rfl RO5.out
    have hgl := (RO5.out.lt g rfl).2
    have hcon := AnyQ.slices_SortFunc sortTryLaid 9 aggTry sizeTry encT encT_len encT_one (fun x y : Tr × Value => Lib.compareInt (f x.1) (f y.1)) (swo_cmp (fun x : Tr × Value => f x.1)) go #[] g 0 yc ys.toArray W5 HGO.out.1 (HGO.out.2 _ _ _ _) HH hgl (by simp; omega)
    change Calls Try.prog 51 _ _ _ at hcon
    rw [List.size_toArray] at hcon
    have HCON := Lib.hid hcon
    have HHH := Lib.hid HH
    clear hcon HH hys
    gi_wp2_with (first | (refine ⟨trivial, ?_⟩; gi_at_call 51; refine (callsIn_wide.2 HCON.out).mono ?_; rintro r u7 ⟨rfl, d', nn, os, hpi, hso, rfl⟩; have hq := sortW_only (w := W5) (g := g) (n := nn) (d := d') (os := os); have t1 := (BT5.out.keep (hq.block bt BT5.out.lt (fun e => by obtain ⟨cs, hc⟩ := ownsRow_type RO5.out (k := g) rfl; have h9 := BT5.out; unfold Blk at h9; rw [e, hc] at h9; injection h9 with h9; injection h9 with _ h9; exact absurd h9 (by decide)))).cell 0; have t1' : (sortWorldK encT 9 W5 g 0 nn d' os).cell? ⟨bt, 0, none⟩ = some (.slice (some ⟨g, 0, none⟩) ys.length yc) := t1; have HPI := Lib.hid hpi; have HSO := Lib.hid hso; have HQ := Lib.hid hq; clear hpi hso hq t1) | gi_in)
    have hgd : g ≠ u2.heap.size := by
      obtain ⟨cs, hc⟩ := ownsRow_type RO5.out (k := g) rfl
      exact LDEF.out _ _ _ hc
    have hDl : u2.heap.size < W5.heap.size := (Array.getElem?_eq_some_iff.1 D5.out).1
    have hD7 : (sortWorldK encT 9 W5 g 0 nn d' os).heap[u2.heap.size]? = some (.deferred (some [])) := (HQ.out.block _ hDl (fun e => hgd e.symm)).trans D5.out
    refine ⟨by simp, .inl ⟨_, _, rfl, run_takeDeferred hD7, ?_⟩⟩
    have hsz : d'.size = ys.length := by rw [HPI.out.1, List.size_toArray]
    have hperm : d'.toList.Perm ys := by
      have h := HPI.out.2.2
      have e1 : d'.extract 0 ys.length = d' := by rw [← hsz, Array.extract_size]
      have e2 : ys.toArray.extract 0 ys.toArray.size = ys.toArray := Array.extract_size
      rw [List.size_toArray] at e2
      have h' : (d'.extract 0 ys.length).toList.Perm (ys.toArray.extract 0 ys.length).toList := h
      rw [e1, e2] at h'
      exact h'
    have hsl : ∀ x ∈ d'.toList, W5.ownsRow 0 54 6 x.2 x.1.ac.length (rows accC x.1.ac) := fun x hx => AC5.out x (hperm.mem_iff.1 hx)
    have hO7 : Only (fun k => k = g ∨ k = u2.heap.size) W5 ((sortWorldK encT 9 W5 g 0 nn d' os).putObj u2.heap.size (.deferred none)) := (HQ.out.mono (fun k _ h => .inl h)).trans ((only_put _ _ _).mono (fun k _ h => .inr h))
    have hK := holdsK_sortWorldK_c encT 9 W5 g 0 ys.toArray d' nn os HHH.out hgl HPI.out.1
    refine ⟨_, results_tmp rfl _ _ _, some ⟨g, 0, none⟩, yc, d'.toList, ?_, ⟨.inr ⟨g, rfl, ?_, fun i x hx j u hu => ?_⟩, fun x hx => ?_⟩, ?_, ?_, ?_, ⟨fun b off e => by cases e; exact HGB.out _ rfl, fun x hx => HGA.out x (hperm.mem_iff.1 hx)⟩⟩
    · show Ending.returned (Value.slice (some ⟨g, 0, none⟩) ys.toArray.size yc) = _
      rw [Array.length_toList, hsz, List.size_toArray]
    · have := hO7.size
      omega
    · have hi : i < d'.size := by
        have := (List.getElem?_eq_some_iff.1 hx).1
        rwa [Array.length_toList] at this
      have hj : j < 9 := by
        have := (List.getElem?_eq_some_iff.1 hu).1
        rwa [tvC_len] at this
      have hc := HoldsK.cell hK hi hj
      have hx2 : d'[i]! = x := by
        rw [getElem!_pos d' i hi]
        have := (List.getElem?_eq_some_iff.1 hx).2
        simpa using this
      have hmem : x ∈ d'.toList := List.mem_of_getElem? hx
      obtain ⟨va, vc, hv⟩ := owns_slice (hsl x hmem)
      have hen : encT x = tvC x := by
        obtain ⟨tt, v⟩ := x
        dsimp only at hv
        rw [hv]
        rfl
      have hu2 : (encT d'[i]!)[j]! = u := by
        rw [hx2, hen, getElem!_pos _ j (by rw [tvC_len]; exact hj)]
        exact (List.getElem?_eq_some_iff.1 hu).2
      have hb : ((sortWorldK encT 9 W5 g 0 nn d' os).putObj u2.heap.size (.deferred none)).heap[g]? = (sortWorldK encT 9 W5 g 0 nn d' os).heap[g]? := World.putObj_heap_other hgd
      rw [World.cell?_of_block (w := sortWorldK encT 9 W5 g 0 nn d' os) hb]
      have h8 := hc.1
      rw [hu2, Nat.zero_add] at h8
      exact h8
    · refine ownsRow_keep (hsl x hx) (fun k e => hO7.block k ((hsl x hx).lt k e).2 ?_)
      obtain ⟨cs, hc⟩ := ownsRow_type (hsl x hx) e
      rintro (h | h)
      · obtain ⟨ds, hd⟩ := ownsRow_type RO5.out (k := g) rfl
        rw [h, hd] at hc
        injection hc with hc
        injection hc with _ hc
        exact absurd hc (by decide)
      · exact LDEF.out _ _ _ hc h
    · exact (hperm.map Prod.fst).trans HPERM.out
    · rw [List.pairwise_map]
      refine List.pairwise_iff_getElem.2 fun i j hi hj hij => ?_
      rw [Array.length_toList] at hi hj
      have h := HSO.out i j (Nat.zero_le _) hij (by rw [← hsz]; exact hj)
      rw [ltOf_cmp (fun x : Tr × Value => f x.1), getElem!_pos d' j hj, getElem!_pos d' i hi] at h
      simpa using h
    · exact hO7.below BE5.out BE5.out.size (fun k hk => by
        have hB := HB.out.size
        rcases hk with rfl | rfl
        · exact HGB.out _ rfl
        · omega)
end Go.Proofs.Ytdohepenmejcaaa.hs

/- Package hist's Tries, Commits, Of, Before. -/
namespace Go.Proofs.Ytdohepenmejcaaa.hs
open Go Go.RowKit Go.Proofs.Ytdohepenmejcaaa.base Go.Maps
set_option linter.unusedVariables false
set_option maxRecDepth 100000

theorem gb_of_below {w w' : World} (h : Below w.heap.size w w') : w.grownBy w' none := ⟨h.os, h.tape, h.output, h.size, fun k hk _ => h.block k hk⟩

set_option maxHeartbeats 1000000 in
theorem told_wrong (w : World) (a : Option Addr) (len cap : Nat) (e : Evs) (hl : IsEvs w a len e) (hr : right e len = false) (hlen : len ≤ 10000) (gw : Nat) (cw : Array Value) (go : Nat) :
    Calls Try.prog 45 #[.slice a len cap, .func (.func gw) #[] cw, .func (.func go) #[] #[]] w fun r w' => r = .returned (.slice none 0 0) ∧ Hid (w.grownBy w' none) := by
  have HL := Lib.hid hl
  have HRT := Lib.hid hr
  have GA := Lib.hid (World.grownBy_alloc w (.cells #[.func (.func gw) #[] cw] 94) none)
  have HLEN := Lib.hid hlen
  clear hl hr hlen
  go_enter Try.func45, Try.ntmps45
  go_wp2_with (first | (go_at_call 23; refine (right_any a len cap e _ (HL.out.grown GA.out) (by have := HLEN.out; omega)).mono ?_; rw [HRT.out]; rintro r u1 ⟨rfl, g1⟩) | go_in)
  go_ret
  exact ⟨rfl, gb_trans GA.out g1.out⟩

theorem co_wants : Wants [] 46 #[] (fun t => t.co) := by
  refine ⟨enters_of Try.func46 (by kernel_rfl) rfl, fun u t v _ => ?_⟩
  show Calls Try.prog 46 #[.agg #[.int .i64 t.th, .int .i64 t.tx, .int .i64 t.at_, .int .i64 t.st, .int .i64 t.b, .int .i64 t.en, .int .i64 t.re, .bool t.co, v]] u _
  go_enter Try.func46, Try.ntmps46
  go_wp2
  go_ret
  exact ⟨rfl, (by repeat (first | exact gb_refl _ _ | refine gb_drewN ?_ _ | refine gb_drew ?_ | refine gb_alloc ?_ _))⟩

/-- What is told of a right trace. -/
def Told (w w' : World) (r : Ending) (T : List Tr) (f : Tr → Int) : Prop := ∃ a c ys, r = .returned (.slice a ys.length c) ∧ Hid (IsTries w' a ys) ∧ Hid ((ys.map Prod.fst).Perm T) ∧ Hid ((ys.map Prod.fst).Pairwise (fun x y => f x ≤ f y)) ∧ Hid (w.grownBy w' none)

set_option maxHeartbeats 1000000 in
theorem commits_right (w : World) (a : Option Addr) (len cap : Nat) (e : Evs) (hl : IsEvs w a len e) (hr : right e len = true) (hlen : len ≤ 10000) :
    Calls Try.prog 32 #[.slice a len cap] w fun r w' => Told w w' r ((tries e len).filter fun t => t.co) Tr.en := by
  have H := Lib.hid (told_right w w a len cap e hl (Below.refl _ _) hr hlen 46 #[] _ [] (by simp) co_wants 47 Tr.en byEnd_orders)
  clear hl hr hlen
  go_enter Try.func32, Try.ntmps32
  go_wp2_with (first | (go_at_call 45; refine H.out.mono ?_; rintro r u1 ⟨a', c', ys, rfl, h1, h2, h3, h4, h5⟩) | go_in)
  go_ret
  exact ⟨a', c', ys, rfl, h1, h2, h3, gb_of_below h4.out⟩

set_option maxHeartbeats 1000000 in
theorem commits_new (w : World) (a : Option Addr) (len cap : Nat) (e : Evs) (hl : IsEvs w a len e) (hr : right e len = true) (hlen : len ≤ 10000) :
    Calls Try.prog 32 #[.slice a len cap] w fun r w' => ∃ a c ys, r = .returned (.slice a ys.length c) ∧ Hid (IsTries w' a ys) ∧ Hid ((ys.map Prod.fst).Perm ((tries e len).filter fun t => t.co)) ∧ Hid ((ys.map Prod.fst).Pairwise (fun x y => x.en ≤ y.en)) ∧ Hid (w.grownBy w' none) ∧ Hid (NewT w.heap.size a ys) := by
  have H := Lib.hid (told_right w w a len cap e hl (Below.refl _ _) hr hlen 46 #[] _ [] (by simp) co_wants 47 Tr.en byEnd_orders)
  clear hl hr hlen
  go_enter Try.func32, Try.ntmps32
  go_wp2_with (first | (go_at_call 45; refine H.out.mono ?_; rintro r u1 ⟨a', c', ys, rfl, h1, h2, h3, h4, h5⟩) | go_in)
  go_ret
  exact ⟨a', c', ys, rfl, h1, h2, h3, gb_of_below h4.out, h5⟩

theorem commits_wrong (w : World) (a : Option Addr) (len cap : Nat) (e : Evs) (hl : IsEvs w a len e) (hr : right e len = false) (hlen : len ≤ 10000) :
    Calls Try.prog 32 #[.slice a len cap] w fun r w' => r = .returned (.slice none 0 0) ∧ Hid (w.grownBy w' none) := by
  have H := fun gw cw go => told_wrong w a len cap e hl hr hlen gw cw go
  go_enter Try.func32, Try.ntmps32
  go_wp2_with (first | (go_at_call 45; refine (H _ _ _).mono ?_; rintro r u1 ⟨rfl, g1⟩) | go_in)
  go_ret
  exact ⟨rfl, g1⟩

end Go.Proofs.Ytdohepenmejcaaa.hs

/- The states of a trace, one by one: model's function that is ranged over. -/
namespace Go.Proofs.Ytdohepenmejcaaa.md
open Go Go.RowKit Go.Proofs.Ytdohepenmejcaaa.base Go.Proofs.Ytdohepenmejcaaa.hs Go.Proofs.Ytdohepenmejcaaa.lg Go.Maps
set_option linter.unusedVariables false
set_option maxRecDepth 100000
attribute [local go_sem] Oper.semAt_some

/-- The accesses of the tries that committed, in the order of their ends; of a trace that isn't right none. -/
def cacs (e : Evs) (len : Nat) : List (List Acc) := if right e len = true then (commsD e len).map Tr.ac else []

theorem tries_n' (e : Evs) (n : Nat) : (tries e n).length ≤ n := by
  unfold tries begins
  rw [List.length_map]
  refine Nat.le_trans (List.length_filter_le _ _) ?_
  rw [List.length_range]
  exact Nat.le_refl _

theorem commits_any (w : World) (a : Option Addr) (len cap : Nat) (e : Evs) (hl : IsEvs w a len e) (hlen : len ≤ 10000) :
    Calls Try.prog 32 #[.slice a len cap] w fun r w' => ∃ a' c ys, r = .returned (.slice a' ys.length c) ∧ Hid (IsTries w' a' ys) ∧ Hid (ys.map (fun x => x.1.ac) = cacs e len) ∧ Hid (w.grownBy w' none) ∧ Hid (NewT w.heap.size a' ys) ∧ Hid (ys.length ≤ len) ∧ Hid (∀ x ∈ ys, x.1.ac.length ≤ len) ∧ Hid (right e len = true → ys.map Prod.fst = commsD e len) := by
  cases hr : right e len with
  | true =>
    refine (commits_new w a len cap e hl hr hlen).mono ?_
    rintro r w' ⟨a', c, ys, rfl, h1, h2, h3, h4, h5⟩
    have E := sorted_one Tr.en (h2.out.trans (commsD_perm e hr).symm) (commsD_sorted e hr) (h3.out.imp fun h => by omega)
    have hm : ∀ x ∈ ys, x.1 ∈ tries e len := fun x hx => (List.mem_filter.1 (h2.out.mem_iff.1 (List.mem_map_of_mem hx))).1
    refine ⟨a', c, ys, rfl, h1, ?_, h4, h5, ?_, fun x hx => ?_, fun _ => E⟩
    · show _ = _
      unfold cacs
      rw [if_pos hr, ← E, List.map_map]
      rfl
    · show _ ≤ _
      have h9 := h2.out.length_eq
      rw [List.length_map] at h9
      have h8 := List.length_filter_le (fun t : Tr => t.co) (tries e len)
      have h7 := tries_n' e len
      omega
    · have h8 := hm x hx
      unfold tries at h8
      obtain ⟨b, _, hb⟩ := List.mem_map.1 h8
      rw [← hb]
      exact trAt_ac e b len
  | false =>
    refine (commits_wrong w a len cap e hl hr hlen).mono ?_
    rintro r w' ⟨rfl, h4⟩
    refine ⟨none, 0, [], rfl, ⟨.inl rfl, by simp⟩, ?_, h4, ⟨fun b off h => (by cases h), by simp⟩, Nat.zero_le _, (by intro x hx; simp at hx), fun h => (by cases h)⟩
    show _ = _
    unfold cacs
    rw [if_neg (by rw [hr]; simp)]
    rfl

theorem tries_keep {w w' : World} {a : Option Addr} {ys : List (Tr × Value)} (h : IsTries w a ys) (ht : ys ≠ [] → ∀ b, a = some ⟨b, 0, none⟩ → w'.heap[b]? = w.heap[b]?) (ha : ∀ x ∈ ys, ∀ k, x.2.ownBlock = some k → w'.heap[k]? = w.heap[k]?) (hs : w.heap.size ≤ w'.heap.size) : IsTries w' a ys := by
  refine ⟨?_, fun x hx => ownsRow_keep (h.2 x hx) (ha x hx)⟩
  by_cases hne : ys = []
  · exact .inl hne
  · rcases h.1 with h1 | ⟨g, h1, h2, h3⟩
    · exact .inl h1
    · exact .inr ⟨g, h1, by omega, fun i x hx j u hu => (World.cell?_of_block (ht hne g h1)).trans (h3 i x hx j u hu)⟩
/-- A try in its cells. -/
theorem try9 {w : World} {a : Option Addr} {ys : List (Tr × Value)} (h : IsTries w a ys) {i : Nat} {x : Tr × Value} (hx : ys[i]? = some x) : ∃ g va vc, a = some ⟨g, 0, none⟩ ∧ g < w.heap.size ∧ x.2 = .slice va x.1.ac.length vc ∧
    w.cell? ⟨g, i * 9, none⟩ = some (.int .i64 x.1.th) ∧ w.cell? ⟨g, i * 9 + 1, none⟩ = some (.int .i64 x.1.tx) ∧ w.cell? ⟨g, i * 9 + 2, none⟩ = some (.int .i64 x.1.at_) ∧ w.cell? ⟨g, i * 9 + 3, none⟩ = some (.int .i64 x.1.st) ∧ w.cell? ⟨g, i * 9 + 4, none⟩ = some (.int .i64 x.1.b) ∧ w.cell? ⟨g, i * 9 + 5, none⟩ = some (.int .i64 x.1.en) ∧ w.cell? ⟨g, i * 9 + 6, none⟩ = some (.int .i64 x.1.re) ∧ w.cell? ⟨g, i * 9 + 7, none⟩ = some (.bool x.1.co) ∧ w.cell? ⟨g, i * 9 + 8, none⟩ = some (.slice va x.1.ac.length vc) := by
  obtain ⟨h1, h2⟩ := h
  obtain ⟨va, vc, hv⟩ := owns_slice (h2 x (List.mem_of_getElem? hx))
  rcases h1 with rfl | ⟨g, rfl, hg, hc⟩
  · simp at hx
  · exact ⟨g, va, vc, rfl, hg, hv, hc i x hx 0 _ rfl, hc i x hx 1 _ rfl, hc i x hx 2 _ rfl, hc i x hx 3 _ rfl, hc i x hx 4 _ rfl, hc i x hx 5 _ rfl, hc i x hx 6 _ rfl, hc i x hx 7 _ rfl, by rw [← hv]; exact hc i x hx 8 _ rfl⟩

def FirmV (J : List Value → World → (Nat → Prop) → Prop) : Prop := ∀ pre W W' Fc, J pre W Fc → (∀ k, Fc k → W'.heap[k]? = W.heap[k]?) → J pre W' Fc

/-- Wherever J has seen so many states, all in one list, it takes one more, and gives word. -/
def TakesV (m l n : Nat) (st : Nat → Nat → Int) (J : List Value → World → (Nat → Prop) → Prop) : Prop :=
  ∀ (pre : List Value) (a : Option Addr) (c : Nat) (W : World) (Fc : Nat → Prop), J pre W Fc → (∀ x ∈ pre, x = .slice a n c) → W.ownsRow 0 2 1 (.slice a n c) n (vals (st pre.length) n) → (∀ k, (Value.slice a n c).ownBlock = some k → ¬ Fc k) → (∀ k, Fc k → k < W.heap.size) → pre.length < 100000 →
    YieldAt Fence.wide m Try.prog l #[.slice a n c] W fun e W' => e = .returned (.bool true) ∧ ∃ Fc', J (pre ++ [.slice a n c]) W' Fc' ∧ (∀ k, Fc' k → Fc k ∨ (W.heap.size ≤ k ∧ k < W'.heap.size)) ∧ Only Fc W W'

/-- At the head of a round. -/
structure RelS (w0 : World) (n c : Nat) (a ta : Option Addr) (z : Nat → Int) (cs : List (List Acc)) (ys : List (Tr × Value)) (J : List Value → World → (Nat → Prop) → Prop) (k : Nat) (wr : World) (xs : List Value) (Fc : Nat → Prop) : Prop where
  j : J xs wr Fc
  len : xs.length = k + 1
  all : ∀ x ∈ xs, x = .slice a n c
  row : wr.ownsRow 0 2 1 (.slice a n c) n (vals (stAt z cs k) n)
  tr : IsTries wr ta ys
  fr : ∀ i, (Value.slice a n c).ownBlock = some i → ¬ Fc i ∧ w0.heap.size ≤ i
  ft : ys ≠ [] → ∀ b, ta = some ⟨b, 0, none⟩ → ¬ Fc b
  rt : ys ≠ [] → ∀ b, ta = some ⟨b, 0, none⟩ → (Value.slice a n c).ownBlock ≠ some b
  fa : ∀ x ∈ ys, ∀ i, x.2.ownBlock = some i → ¬ Fc i
  fc : ∀ i, Fc i → w0.heap.size ≤ i ∧ i < wr.heap.size
  bel : Below w0.heap.size w0 wr

section
variable {w0 wr u u' : World} {n c k : Nat} {a ta : Option Addr} {z : Nat → Int} {cs : List (List Acc)} {ys : List (Tr × Value)} {J : List Value → World → (Nat → Prop) → Prop} {xs : List Value} {Fc Fc' : Nat → Prop}
theorem tries_lt (h : IsTries wr ta ys) (hne : ys ≠ []) {b : Nat} (hb : ta = some ⟨b, 0, none⟩) : b < wr.heap.size := by
  rcases h.1 with h1 | ⟨g, h1, h2, _⟩
  · exact absurd h1 hne
  · rw [hb] at h1
    cases h1
    exact h2
theorem RelS.grown (h : RelS w0 n c a ta z cs ys J k wr xs Fc) (firm : FirmV J) (g : wr.grownBy u none) : RelS w0 n c a ta z cs ys J k u xs Fc :=
  ⟨firm _ _ _ _ h.j (fun i hi => g.block i (h.fc i hi).2 (by simp)), h.len, h.all, ownsRow_keep h.row (fun i e => g.block i (h.row.lt i e).2 (by simp)), h.tr.grown g, h.fr, h.ft, h.rt, h.fa, fun i hi => ⟨(h.fc i hi).1, Nat.lt_of_lt_of_le (h.fc i hi).2 g.size⟩, bl_none h.bel g⟩
/-- The list of values was changed, and J has taken it. -/
theorem RelS.next (h : RelS w0 n c a ta z cs ys J k wr xs Fc) (firm : FirmV J) (g : wr.grownBy u (Value.slice a n c).ownBlock) (hr : u.ownsRow 0 2 1 (.slice a n c) n (vals (stAt z cs (k + 1)) n)) (hJ : J (xs ++ [.slice a n c]) u' Fc') (hF : ∀ i, Fc' i → Fc i ∨ (u.heap.size ≤ i ∧ i < u'.heap.size)) (hO : Only Fc u u') :
    RelS w0 n c a ta z cs ys J (k + 1) u' (xs ++ [.slice a n c]) Fc' := by
  have hne : ∀ i, i < wr.heap.size → (Value.slice a n c).ownBlock ≠ some i → ¬ Fc i → u'.heap[i]? = wr.heap[i]? := fun i h1 h2 h3 => (hO.block i (Nat.lt_of_lt_of_le h1 g.size) h3).trans (g.block i h1 (fun e => h2 e.symm))
  have hdif : ∀ x ∈ ys, ∀ i, x.2.ownBlock = some i → (Value.slice a n c).ownBlock ≠ some i := fun x hx i e e2 => by
    obtain ⟨ds, hd⟩ := ownsRow_type (h.tr.2 x hx) e
    obtain ⟨es, he⟩ := ownsRow_type h.row e2
    rw [hd] at he
    injection he with he
    injection he with _ he
    exact absurd he (by decide)
  refine ⟨hJ, by rw [List.length_append, h.len]; rfl, fun x hx => ?_, ownsRow_keep hr (fun i e => hO.block i (hr.lt i e).2 (h.fr i e).1), tries_keep h.tr (fun hn b hb => hne b (tries_lt h.tr hn hb) (h.rt hn b hb) (h.ft hn b hb)) (fun x hx i e => hne i ((h.tr.2 x hx).lt i e).2 (hdif x hx i e) (h.fa x hx i e)) (Nat.le_trans g.size hO.size), fun i e => ⟨fun hf => ?_, (h.fr i e).2⟩, fun hn b hb hf => ?_, h.rt, fun x hx i e hf => ?_, fun i hi => ?_, ?_⟩
  · rcases List.mem_append.1 hx with hx | hx
    · exact h.all x hx
    · simpa using hx
  · rcases hF i hf with h1 | h1
    · exact (h.fr i e).1 h1
    · have := (hr.lt i e).2; omega
  · rcases hF b hf with h1 | h1
    · exact h.ft hn b hb h1
    · have := tries_lt h.tr hn hb; have := g.size; omega
  · rcases hF i hf with h1 | h1
    · exact h.fa x hx i e h1
    · have := ((h.tr.2 x hx).lt i e).2; have := g.size; omega
  · rcases hF i hi with h1 | h1
    · exact ⟨(h.fc i h1).1, Nat.lt_of_lt_of_le (h.fc i h1).2 (Nat.le_trans g.size hO.size)⟩
    · exact ⟨Nat.le_trans h.bel.size (Nat.le_trans g.size h1.1), h1.2⟩
  · exact hO.below (h.bel.grown g h.bel.size (fun i hi => (h.fr i hi).2)) (Nat.le_trans h.bel.size g.size) (fun i hi => (h.fc i hi).1)
end

theorem row_ne {w : World} {b1 b2 : Nat} {E1 E2 : TypeId} {s1 s2 n1 n2 : Nat} {v1 v2 : Value} {x1 x2 : List Value} (h1 : w.ownsRow b1 E1 s1 v1 n1 x1) (h2 : w.ownsRow b2 E2 s2 v2 n2 x2) (hne : E1 ≠ E2) : ∀ k, v1.ownBlock = some k → v2.ownBlock ≠ some k := fun k e e2 => by
  obtain ⟨cs, hc⟩ := ownsRow_type h1 e
  obtain ⟨ds, hd⟩ := ownsRow_type h2 e2
  rw [hc] at hd
  injection hd with hd
  injection hd with _ hd
  exact hne hd

set_option maxHeartbeats 4000000 in
theorem states_in (m : Nat) (hm : 1 ≤ m) (l : Nat) (a1 : Option Addr) (n c1 : Nat) (z : Nat → Int) (a2 : Option Addr) (len cap : Nat) (e : Evs) (bf bl : Nat) (J : List Value → World → (Nat → Prop) → Prop) (firm : FirmV J)
    (hY : TakesV (m - 1) l n (stAt z (cacs e len)) J) (w0 W : World) (hZ : IsNums .i64 w0 a1 n z) (hL : IsEvs w0 a2 len e) (hn : n ≤ 1000000) (hlen : len ≤ 10000) (hbf : Blk 22 W bf #[.slice a1 n c1]) (hbl : Blk 23 W bl #[.slice a2 len cap])
    (Fc0 : Nat → Prop) (h0 : J [] W Fc0) (hfl : ¬ Fc0 bl) (hF0 : ∀ k, Fc0 k → w0.heap.size ≤ k ∧ k < W.heap.size) (hB : Below w0.heap.size w0 W) :
    CallsIn Fence.wide m Try.prog 43 #[.func (.yield l) #[] #[], .pointer (some ⟨bf, 0, none⟩), .pointer (some ⟨bl, 0, none⟩)] W fun r W' => r = .returned (.tuple #[]) ∧ ∃ xs Fc a c, J xs W' Fc ∧ xs.length = (cacs e len).length + 1 ∧ (∀ x ∈ xs, x = .slice a n c) ∧ W'.ownsRow 0 2 1 (.slice a n c) n (vals (stAt z (cacs e len) (cacs e len).length) n) ∧ (∀ i, (Value.slice a n c).ownBlock = some i → ¬ Fc i ∧ w0.heap.size ≤ i) ∧ (∀ k, Fc k → w0.heap.size ≤ k ∧ k < W'.heap.size) ∧ Below w0.heap.size w0 W' := by
  have HZ := Lib.hid hZ
  have HL := Lib.hid hL
  have HBL := Lib.hid hbl
  have FIRM := Lib.hid firm
  have HY := Lib.hid hY
  have HJ := Lib.hid h0
  have HFL := Lib.hid hfl
  have HF0 := Lib.hid hF0
  have HB := Lib.hid hB
  have b1 : W.cell? ⟨bf, 0, none⟩ = some (.slice a1 n c1) := hbf.cell 0
  have lt1 := hbf.lt
  have lt2 := hbl.lt
  clear hZ hL hbf hbl firm hY h0 hfl hF0 hB
  refine callsIn_of_wp Try.func43 rfl trivial ?_ rfl
  simp only [Try.ntmps43, List.size_toArray, List.length_cons, List.length_nil, Nat.reduceAdd, Nat.reduceSub, Array.replicate_succ, Array.replicate_zero, List.push_toArray, List.append_toArray, List.nil_append, List.cons_append]
  gi_wp2_with (first | (refine ⟨trivial, ?_⟩; gi_at_call 28; refine (callsIn_wide.2 (copied_any a1 n c1 z _ ((HZ.out.below HB.out)) hn)).mono ?_; rintro r u1 ⟨a, c, rfl, hr, g1⟩; have HR := Lib.hid hr; have G1 := Lib.hid g1.out; clear hr g1; obtain ⟨fn, tmps, assign, body, hy, hRd⟩ := HY.out [] a c u1 Fc0 (FIRM.out _ _ _ _ HJ.out (fun k hk => G1.out.block k (HF0.out k hk).2 (by simp))) (by simp) (ownsRow_drop HR.out (Nat.zero_le _)) (fun k e hf => by have h1 := (HR.out.lt k e).1; have h2 := (HF0.out k hf).2; omega) (fun k hk => Nat.lt_of_lt_of_le (HF0.out k hk).2 G1.out.size) (by simp); have hy' : (Instr.yield l #[.slice a n c]).run Try.prog u1 = .ok (.round l fn tmps assign body) u1 := hy; have RD := Lib.hid hRd; clear hy hRd) | gi_in)
  refine RD.out.mono ?_
  rintro e3 u2 ⟨rfl, Fc1, hJ, hF, hO⟩
  have HJ1 := Lib.hid hJ
  have HF1 := Lib.hid hF
  have HO1 := Lib.hid hO
  clear hJ hF hO RD
  have hs1 : W.heap.size ≤ u1.heap.size := G1.out.size
  have hs2 : u1.heap.size ≤ u2.heap.size := HO1.out.size
  have BL2 := Lib.hid (HBL.out.keep ((HO1.out.block bl (by omega) HFL.out).trans (G1.out.block bl lt2 (by simp))))
  have l2 : u2.cell? ⟨bl, 0, none⟩ = some (.slice a2 len cap) := BL2.out.cell 0
  have HB2 : Hid (Below w0.heap.size w0 u2) := Lib.hid (HO1.out.below (bl_none HB.out G1.out) (Nat.le_trans HB.out.size hs1) (fun i hi => (HF0.out i hi).1))
  gi_wp2_with (first | (refine ⟨trivial, ?_⟩; gi_at_call 32; refine (callsIn_wide.2 (commits_any u2 a2 len cap e (HL.out.below HB2.out (Nat.le_refl _)) hlen)).mono ?_; rintro r u3 ⟨ta, tc, ys, rfl, h1, h2, h3, h4, h5, h6, _⟩) | gi_in)
  have hyl : ys.length ≤ 10000 := by have := h5.out; omega
  have HCL := Lib.hid (show (cacs e len).length = ys.length by rw [← h2.out, List.length_map])
  have R0 : RelS w0 n c a ta z (cacs e len) ys J 0 u3 [.slice a n c] Fc1 := by
    have hfc : ∀ i, Fc1 i → w0.heap.size ≤ i ∧ i < u2.heap.size := fun i hi => by
      rcases HF1.out i hi with h | h
      · have := HF0.out i h; omega
      · have := HB.out.size; omega
    refine ⟨FIRM.out _ _ _ _ HJ1.out (fun k hk => h3.out.block k (hfc k hk).2 (by simp)), rfl, by simp, ownsRow_keep (ownsRow_drop HR.out (Nat.zero_le _)) (fun k e => ?_), h1.out, fun i e => ⟨fun hf => ?_, ?_⟩, fun hne b hb hf => ?_, fun hne b hb e => ?_, fun x hx i e hf => ?_, fun i hi => ⟨(hfc i hi).1, Nat.lt_of_lt_of_le (hfc i hi).2 h3.out.size⟩, bl_none HB2.out h3.out⟩
    · have h8 := HR.out.lt k e
      exact (h3.out.block k (by omega) (by simp)).trans (HO1.out.block k h8.2 (fun hf => by have := HF0.out k hf; omega))
    · have h8 := HR.out.lt i e
      rcases HF1.out i hf with h | h
      · have := HF0.out i h; omega
      · omega
    · have h8 := HR.out.lt i e
      have := HB.out.size
      omega
    · have h8 := h4.out.1 b 0 hb
      have := hfc b hf
      omega
    · have h8 := h4.out.1 b 0 hb
      have h9 := HR.out.lt b e
      omega
    · have h8 := h4.out.2 x hx i e
      have := hfc i hf
      omega
  have HR0 := Lib.hid R0
  have HAC := Lib.hid h6.out
  have HMAP := Lib.hid h2.out
  clear R0 HJ1 HF1 HO1 BL2 HB2 h1 h2 h3 h4 h6 HR G1 HBL HF0 HB HJ HFL b1 l2
  gi_loopw [16] (fun iv wr => ∃ (k : Nat) (xs : List Value) (Fc : Nat → Prop), k ≤ ys.length ∧ iv = .int .i64 k ∧ Hid (RelS w0 n c a ta z (cacs e len) ys J k wr xs Fc)) (fun iv _ => (ys.length - intOf iv).toNat)
  case atStart => exact ⟨0, _, _, by omega, rfl, HR0⟩
  case round =>
    obtain ⟨k, xs, Fc, hk, rfl, RR⟩ := hrel
    clear HR0
    by_cases hlt : k < ys.length
    · have hlt' : (k : Int) < (ys.length : Int) := by omega
      have hk6 : (k : Int) < 1000000 := by omega
      have hget := List.getElem?_eq_getElem hlt
      have hmem : ys[k] ∈ ys := List.getElem_mem hlt
      obtain ⟨g, va, vc, rfl, hg, hv, d0, d1, d2, d3, d4, d5, d6, d7, d8⟩ := try9 RR.out.tr hget
      have hcs : (cacs e len)[k]? = some ys[k].1.ac := by rw [← HMAP.out, List.getElem?_map, hget]; rfl
      have hrow := RR.out.tr.2 ys[k] hmem
      have hal := HAC.out ys[k] hmem
      have ST := Lib.hid (stAt_step z hcs)
      rw [hv] at hrow
      generalize ys[k].1 = t at *
      have HROW := Lib.hid hrow
      clear hget hmem hcs hv hrow
      have RR1 := Lib.hid (RR.out.grown FIRM.out (World.grownBy_alloc wr (.cells #[.int .i64 t.th, .int .i64 t.tx, .int .i64 t.at_, .int .i64 t.st, .int .i64 t.b, .int .i64 t.en, .int .i64 t.re, .bool t.co, .slice va t.ac.length vc] 33) none))
      have TB := Lib.hid (Blk.made wr 33 #[.int .i64 t.th, .int .i64 t.tx, .int .i64 t.at_, .int .i64 t.st, .int .i64 t.b, .int .i64 t.en, .int .i64 t.re, .bool t.co, .slice va t.ac.length vc])
      have HROW1 := Lib.hid (HROW.out.alloc (.cells #[.int .i64 t.th, .int .i64 t.tx, .int .i64 t.at_, .int .i64 t.st, .int .i64 t.b, .int .i64 t.en, .int .i64 t.re, .bool t.co, .slice va t.ac.length vc] 33))
      have HAP := Lib.hid (show t.ac ≠ [] → ∀ b off gg, va = some ⟨b, off, none⟩ → a = some ⟨gg, 0, none⟩ → b ≠ gg from fun _ b off gg e1 e2 e3 => row_ne HROW1.out RR1.out.row (by decide) b (by rw [e1]; rfl) (by rw [e2, e3]; rfl))
      clear RR HROW
      gi_wp2_with (first | (refine ⟨trivial, ?_⟩; gi_at_call 29; refine (callsIn_wide.2 (change_any 0 a n c (stAt z (cacs e len) k) t va vc _ RR1.out.row (IsL.of_own HROW1.out accC_len rfl) HAP.out hn (by omega))).mono ?_; rintro r u2 ⟨rfl, hr2, g2⟩; have HR2 := Lib.hid (show u2.ownsRow 0 2 1 (.slice a n c) n (vals (stAt z (cacs e len) (k + 1)) n) by rw [ST.out]; exact hr2.out); obtain ⟨fn, tmps, assign, body, hy, hRd⟩ := HY.out xs a c u2 Fc (FIRM.out _ _ _ _ RR1.out.j (fun k hk => g2.out.block k (RR1.out.fc k hk).2 (fun e => (RR1.out.fr k e.symm).1 hk))) RR1.out.all (by rw [RR1.out.len]; exact HR2.out) (fun k e => (RR1.out.fr k e).1) (fun k hk => Nat.lt_of_lt_of_le (RR1.out.fc k hk).2 g2.out.size) (by have := RR1.out.len; omega); have hy' : (Instr.yield l #[.slice a n c]).run Try.prog u2 = .ok (.round l fn tmps assign body) u2 := hy; have RD := Lib.hid hRd; have G2 := Lib.hid g2.out; clear hy hRd hr2 g2) | gi_in)
      refine RD.out.mono ?_
      rintro e3 u3 ⟨rfl, Fc', hJ, hF, hO⟩
      have QQ := Lib.hid (RR1.out.next FIRM.out G2.out HR2.out hJ hF hO)
      clear hJ hF hO RD RR1 G2 HR2
      gi_wp2
      go_roundw
      case rel => exact ⟨k + 1, _, _, by omega, by go_num, QQ⟩
      case measure => simp [intOf]; omega
    · obtain rfl : k = ys.length := by omega
      gi_wp2
      go_end0
      exact ⟨rfl, xs, Fc, a, c, RR.out.j, by rw [HCL.out]; exact RR.out.len, RR.out.all, by rw [HCL.out]; exact RR.out.row, RR.out.fr, RR.out.fc, RR.out.bel⟩
end Go.Proofs.Ytdohepenmejcaaa.md

/- A region that draws its order, in a round of a range over a function: walked as anywhere; append, and a call, as its steps. Of no program. -/
namespace Go.Proofs.Ytdohepenmejcaaa.base
open Go Go.RowKit

def noDefer (o : Oper) : Bool := match o.op with | .defer _ => false | _ => true

section
variable {F : Fence} {l n : Nat} {P : Program} {md : Region.Mode} {ops : Array Oper} {Q : Exit → Act → World → Prop}

theorem wpOpIn_round {i : Nat} {K : Act → World → Prop} {a : Act} {w : World} (hd : ∀ o, ops[i]? = some o → noDefer o = true) (h : wpOpIn F n P ops Q i K a w) : wpOpIn (F.inRound l) n P ops Q i K a w := by
  unfold wpOpIn at h ⊢
  cases ho : ops[i]? with
  | none => rw [ho] at h; exact h
  | some o =>
    rw [ho] at h
    dsimp only at h ⊢
    have hne : ∀ c, o.op ≠ .defer c := fun c e => by have := hd o ho; simp [noDefer, e] at this
    by_cases hw : Region.wanted o (yielded ops a.tmps) = true
    · rw [if_pos hw] at h ⊢
      refine ⟨h.1, ?_⟩
      have h2 := h.2
      rw [Oper.semAt_eq _ _ _ hne] at h2 ⊢
      exact h2
    · rw [if_neg hw] at h ⊢
      exact h

theorem wpAnyIn_round (hd : ops.toList.all noDefer = true) : ∀ (fuel : Nat) (listed : Array Bool) (a : Act) (w : World), wpAnyIn F n P md ops Q fuel listed a w → wpAnyIn (F.inRound l) n P md ops Q fuel listed a w
  | 0, _, _, _, h => h
  | fuel + 1, listed, a, w, h => by
    refine ⟨h.1, fun i hi => wpOpIn_mono (fun a w h => wpAnyIn_round hd fuel _ a w h) (wpOpIn_round (fun o ho => ?_) (h.2 i hi))⟩
    exact List.all_eq_true.1 hd o (Array.mem_toList_iff.2 (Array.mem_of_getElem? ho))

theorem wpIn_region_round {id : Nat} {a : Act} {w : World} (hm : P.follows .mixedOrders = true) (hd : ops.toList.all noDefer = true) (h : wpAnyIn F n P .any ops Q ops.size (Array.replicate ops.size false) a w.drew) : (Code.region id ops true).wpIn (F.inRound l) n P Q a w :=
  wpIn_region_any hm (wpAnyIn_round hd _ _ _ _ h)

/-- append, as one step. -/
theorem stepIn_append_at {o : Oper} {a : Act} {w : World} {K : Act → World → Prop} {E : Prop}
    (hg : o.guard = none) (s x : Operand) (t : TypeId) (hop : o.op = Op.call { callee := Callee.builtin Builtin.append, args := #[s, x], argTypes := #[t, t] })
    (base : Nat) (e : TypeId) (i : TypeInfo) (z : Value) (size bytes : Nat) (h1 : P.underlying t = some (.slice e)) (h2 : P.info? e = some i) (h3 : i.zero = some z) (h4 : i.size = size) (h5 : i.bytes = bytes) (h6 : z.cells.size = size) (h7 : 0 < size)
    (v : Value) (k : Nat) (xs : List Value) (hs : a.eval s = v) (hown : w.ownsRow base e size v k xs)
    (ad : Addr) (m c : Nat) (news : List Value) (hx : a.eval x = .slice (some ad) m c) (hl : news.length = m * size) (hnews : ∀ j u, news[j]? = some u → w.cell? (ad.add j) = some u) (h1c : ∀ u ∈ news, u.oneCell' = true)
    (h63 : k + m ≤ maxLen) (hbytes : (k + m) * bytes ≤ 140737488355328) (hbase : base ≤ w.heap.size) (hm : 0 < m)
    (hK : ∀ g cap w', w'.ownsRow base e size (.slice (some ⟨g, 0, none⟩) (k + m) cap) (k + m) (xs ++ news) → w.grownBy w' v.ownBlock → (some g = v.ownBlock ∨ w.heap.size ≤ g) → K (a.put o.dst (.slice (some ⟨g, 0, none⟩) (k + m) cap)) w') :
    if Region.wanted o (yielded ops a.tmps) = true then Oper.wpIn F n P o a w K Q else E := by
  have hw : Region.wanted o (yielded ops a.tmps) = true := by simp [Region.wanted, hg]
  rw [if_pos hw]
  obtain ⟨v', w', hrun, r1, r2, r3⟩ := run_append_at (P := P) w base t o.type e i z size bytes h1 h2 h3 h4 h5 h6 h7 v k xs hown ad m c news hl hnews h1c h63 hbytes hbase
  have r0 := r1
  rcases r0.2 with ⟨_, h0⟩ | ⟨g, cap, _, rfl, _⟩
  · omega
  unfold Oper.wpIn
  refine ⟨by simp [Oper.about, hop, resolve, Target.leads, Sem.run_pure], ?_⟩
  rw [Oper.semAt_plain F _ _ (by rw [hop]; intro c hc'; cases hc')]
  simp [execOp, hop, resolve, invoke, builtin, hs, hx, hrun, Result.andThen]
  exact hK g cap w' r1 r2 (by
    rcases r3 with h | ⟨k, h, hk⟩
    · exact .inl h
    · cases h; exact .inr hk)

/-- A call of a Go function, as one step. -/
theorem stepIn_call {o : Oper} {a : Act} {w : World} {K : Act → World → Prop} {E : Prop}
    (hg : o.guard = none) (f : FuncId) (args : Array Value) (hx : (o.semAt none a.eval).run P w = .ok (.enter f args) w) {R : Ending → World → Prop} (hC : Calls P f args w R)
    (hr : ∀ e w', R e w' → ∃ v, e = .returned v ∧ K (a.put o.dst v) w') : if Region.wanted o (yielded ops a.tmps) = true then Oper.wpIn Fence.wide n P o a w K Q else E := by
  have hw : Region.wanted o (yielded ops a.tmps) = true := by simp [Region.wanted, hg]
  rw [if_pos hw]
  refine ⟨fun _ _ => trivial, ?_⟩
  show o.uponIn Fence.wide n P a K Q ((o.semAt none a.eval).run P w)
  rw [hx, Oper.uponIn_enter]
  refine ⟨fun h => (by cases h), (callsIn_wide.2 hC).mono ?_⟩
  intro e w' h
  obtain ⟨v, rfl, hK⟩ := hr e w' h
  exact hK
end
end Go.Proofs.Ytdohepenmejcaaa.base

/- Package model's States: all states of a trace, in memory of their own. -/
namespace Go.Proofs.Ytdohepenmejcaaa.md
open Go Go.RowKit Go.Proofs.Ytdohepenmejcaaa.base Go.Proofs.Ytdohepenmejcaaa.hs Go.Proofs.Ytdohepenmejcaaa.lg Go.Maps
set_option linter.unusedVariables false
set_option maxRecDepth 100000
attribute [local go_sem] Oper.semAt_some

theorem mf_run (fn : Fn) (first cap : Array Value) (w : World) : (Instr.makeFunc fn first cap).run Try.prog w = .ok (.func fn first cap) w := rfl

theorem states_fn (a1 : Option Addr) (n c1 : Nat) (a2 : Option Addr) (len cap : Nat) (w : World) :
    Calls Try.prog 27 #[.slice a1 n c1, .slice a2 len cap] w fun r w' => r = .returned (.func (.func 43) #[] #[.pointer (some ⟨w.heap.size, 0, none⟩), .pointer (some ⟨w.heap.size + 1, 0, none⟩)]) ∧ w' = (w.alloc (.cells #[.slice a1 n c1] 22)).alloc (.cells #[.slice a2 len cap] 23) := by
  have hmf := mf_run
  go_enter Try.func27, Try.ntmps27
  go_wp2
  go_ret
  exact ⟨rfl, rfl⟩

/-- A row of n numbers of one's own, in blocks from B on. -/
def RowAt (w : World) (B n : Nat) (f : Nat → Int) (u : Value) : Prop := ∃ a c, u = .slice a n c ∧ w.ownsRow B 2 1 u n (vals f n)

theorem infoRow : (Try.prog.info? 22).map (fun i => (i.zero, i.size, i.bytes)) = some (some (.slice none 0 0), 1, 24) := by kernel_rfl

/-- What States holds while the states come: us, the rows so far. -/
structure JSP (l D : Nat) (rec : Loop) (bt n : Nat) (st : Nat → Nat → Int) (m : Nat) (W : World) (Fc : Nat → Prop) (a : Option Addr) (c : Nat) (us : List Value) : Prop where
  len : us.length = m
  box : Blk 25 W bt #[.slice a m c]
  row : W.ownsRow 0 22 1 (.slice a m c) m us
  each : ∀ i u, us[i]? = some u → ∃ a c, u = .slice a n c ∧ W.ownsRow 0 2 1 u n (vals (st i) n)
  loop : LoopAt l D rec W
  fbt : Fc bt
  fl : Fc l
  fD : Fc D
  frow : ∀ k, (Value.slice a m c).ownBlock = some k → Fc k
  feach : ∀ u ∈ us, ∀ k, u.ownBlock = some k → Fc k
def JS (l D : Nat) (rec : Loop) (bt n : Nat) (st : Nat → Nat → Int) (pre : List Value) (W : World) (Fc : Nat → Prop) : Prop := ∃ a c us, JSP l D rec bt n st pre.length W Fc a c us

theorem JSP.keep {l D : Nat} {rec : Loop} {bt n : Nat} {st : Nat → Nat → Int} {m : Nat} {W W' : World} {Fc Fd : Nat → Prop} {a : Option Addr} {c : Nat} {us : List Value} (h : JSP l D rec bt n st m W Fc a c us) (hk : ∀ k, Fc k → W'.heap[k]? = W.heap[k]?) (hF : ∀ k, Fc k → Fd k) : JSP l D rec bt n st m W' Fd a c us :=
  ⟨h.len, h.box.keep (hk _ h.fbt), ownsRow_keep h.row (fun k e => hk _ (h.frow k e)), fun i u hu => (by
    obtain ⟨a, c, h1, h2⟩ := h.each i u hu
    exact ⟨a, c, h1, ownsRow_keep h2 (fun k e => hk _ (h.feach u (List.mem_of_getElem? hu) k e))⟩), h.loop.keep (hk _ h.fl) (hk _ h.fD), hF _ h.fbt, hF _ h.fl, hF _ h.fD, fun k e => hF _ (h.frow k e), fun u hu k e => hF _ (h.feach u hu k e)⟩
theorem js_firm (l D : Nat) (rec : Loop) (bt n : Nat) (st : Nat → Nat → Int) : FirmV (JS l D rec bt n st) := by
  rintro pre W W' Fc ⟨a, c, us, h⟩ hk
  exact ⟨a, c, us, h.keep hk (fun _ h => h)⟩

/-- One more state was copied, and appended. -/
theorem js_add {l D : Nat} {rec : Loop} {bt n : Nat} {st : Nat → Nat → Int} {m : Nat} {W W' : World} {Fc G : Nat → Prop} {a : Option Addr} {c : Nat} {us : List Value} (h : JSP l D rec bt n st m W Fc a c us) {av : Option Addr} {vc g c' : Nat}
    (hv : W'.ownsRow 0 2 1 (.slice av n vc) n (vals (st m) n)) (hvG : ∀ k, (Value.slice av n vc).ownBlock = some k → G k)
    (ho : Only (fun k => k = bt ∨ k = l ∨ (Value.slice a m c).ownBlock = some k) W W') (hlt : ∀ k, Fc k → k < W.heap.size) (hb : Blk 25 W' bt #[.slice (some ⟨g, 0, none⟩) (m + 1) c'])
    (hr : W'.ownsRow 0 22 1 (.slice (some ⟨g, 0, none⟩) (m + 1) c') (m + 1) (us ++ [.slice av n vc])) (hL : W'.heap[l]? = some (.loop rec)) (hF : ∀ k, Fc k → G k) (hg : G g) :
    JSP l D rec bt n st (m + 1) W' G (some ⟨g, 0, none⟩) c' (us ++ [.slice av n vc]) := by
  have hcell : ∀ k ty cs, W.heap[k]? = some (.cells cs ty (0, 0)) → ty ≠ 25 → ty ≠ 22 → Fc k → W'.heap[k]? = W.heap[k]? := fun k ty cs hk h1 h2 hf => by
    refine ho.block k (hlt k hf) ?_
    rintro (e | e | e)
    · have := h.box
      unfold Blk at this
      rw [← e, hk] at this
      injection this with this
      injection this with _ this
      exact h1 this
    · have := h.loop.1
      rw [← e, hk] at this
      cases this
    · obtain ⟨ds, hd⟩ := ownsRow_type h.row e
      rw [hk] at hd
      injection hd with hd
      injection hd with _ hd
      exact h2 hd
  refine ⟨by rw [List.length_append, h.len]; rfl, hb, hr, fun i u hu => ?_, ⟨hL, ?_⟩, hF _ h.fbt, hF _ h.fl, hF _ h.fD, fun k e => by cases e; exact hg, fun u hu k e => ?_⟩
  · by_cases hi : i < us.length
    · rw [List.getElem?_append_left hi] at hu
      obtain ⟨a3, c3, h1, h2⟩ := h.each i u hu
      refine ⟨a3, c3, h1, ownsRow_keep h2 (fun k e => ?_)⟩
      obtain ⟨cs, hc⟩ := ownsRow_type h2 e
      exact hcell k _ cs hc (by decide) (by decide) (h.feach u (List.mem_of_getElem? hu) k e)
    · rw [List.getElem?_append_right (by omega)] at hu
      have hi0 : i - us.length = 0 := by have := (List.getElem?_eq_some_iff.1 hu).1; simp at this; omega
      rw [hi0] at hu
      have hi1 : i = m := by have := h.len; omega
      subst hi1
      simp at hu
      subst hu
      exact ⟨av, vc, rfl, hv⟩
  · refine (ho.block D (hlt D h.fD) ?_).trans h.loop.2
    have hd := h.loop.2
    rintro (e | e | e)
    · have := h.box
      unfold Blk at this
      rw [← e, hd] at this
      cases this
    · have := h.loop.1
      rw [← e, hd] at this
      cases this
    · obtain ⟨ds, hd2⟩ := ownsRow_type h.row e
      rw [hd] at hd2
      cases hd2
  · rcases List.mem_append.1 hu with hu | hu
    · exact hF _ (h.feach u hu k e)
    · rw [List.mem_singleton.1 hu] at e
      exact hvG k e

/-- .. and the round has ended. -/
theorem js_end {l D : Nat} {rec : Loop} {bt n : Nat} {st : Nat → Nat → Int} {pre : List Value} {x : Value} {W W4 u5 w6 : World} {Fc : Nat → Prop} {ya : Option Addr} {yc : Nat} {us : List Value} {lo : Loop} {a5 : Option Addr} {c5 g' c' : Nat} (HJ : JSP l D rec bt n st pre.length W Fc ya yc us) (FLT : ∀ k, Fc k → k < W.heap.size) (OA : Only (fun k => k = l) W W4) (L4 : W4.heap[l]? = some (.loop lo)) (S4 : W4.heap.size = W.heap.size)
    (g5 : W4.drew.grownBy u5 none) (V5 : u5.ownsRow W4.drew.heap.size 2 1 (.slice a5 n c5) n (vals (st pre.length) n)) (B6 : Blk 25 w6 bt #[.slice ya pre.length yc]) (R4 : W4.drew.ownsRow 0 22 1 (.slice ya pre.length yc) pre.length us)
    (HO : w6.ownsRow 0 22 1 (.slice (some ⟨g', 0, none⟩) (pre.length + 1) c') (pre.length + 1) (us ++ [.slice a5 n c5])) (HG : (u5.alloc (.cells #[.slice a5 n c5] 22)).grownBy w6 (Value.slice ya pre.length yc).ownBlock) (HV : some g' = (Value.slice ya pre.length yc).ownBlock ∨ (u5.alloc (.cells #[.slice a5 n c5] 22)).heap.size ≤ g') :
    (w6.setCell ⟨bt, 0, none⟩ (.slice (some ⟨g', 0, none⟩) (pre.length + 1) c')).heap[l]? = some (.loop lo) ∧ ∃ Fc', JS l D rec bt n st (pre ++ [x]) ((w6.setCell ⟨bt, 0, none⟩ (.slice (some ⟨g', 0, none⟩) (pre.length + 1) c')).putObj l (.loop rec)) Fc' ∧
      (∀ k, Fc' k → Fc k ∨ (W.heap.size ≤ k ∧ k < (w6.setCell ⟨bt, 0, none⟩ (.slice (some ⟨g', 0, none⟩) (pre.length + 1) c')).heap.size)) ∧ Only Fc W ((w6.setCell ⟨bt, 0, none⟩ (.slice (some ⟨g', 0, none⟩) (pre.length + 1) c')).putObj l (.loop rec)) := by
  have s5 : W4.heap.size ≤ u5.heap.size := g5.size
  have s6 : u5.heap.size + 1 ≤ w6.heap.size := by have := HG.size; rwa [World.size_alloc] at this
  have hl4 : l < W4.heap.size := (Array.getElem?_eq_some_iff.1 L4).1
  have nlb : bt ≠ l := fun e => by
    have h1 := HJ.box
    unfold Blk at h1
    rw [e, HJ.loop.1] at h1
    cases h1
  have nlr : (Value.slice ya pre.length yc).ownBlock ≠ some l := fun e => by
    obtain ⟨cs, hc⟩ := ownsRow_type R4 e
    have h1 : W4.drew.heap[l]? = some (.loop lo) := L4
    rw [h1] at hc
    cases hc
  have nbr : (Value.slice ya pre.length yc).ownBlock ≠ some bt := fun e => by
    obtain ⟨cs, hc⟩ := ownsRow_type HJ.row e
    have h1 := HJ.box
    unfold Blk at h1
    rw [h1] at hc
    injection hc with hc
    injection hc with _ hc
    exact absurd hc (by decide)
  have L5 : u5.heap[l]? = some (.loop lo) := (g5.block l hl4 (by simp)).trans L4
  have L6 : w6.heap[l]? = some (.loop lo) := (HG.block l (by rw [World.size_alloc]; omega) (fun e => nlr e.symm)).trans ((Below.heap_alloc u5 _ l (by omega)).trans L5)
  have L7 : (w6.setCell ⟨bt, 0, none⟩ (.slice (some ⟨g', 0, none⟩) (pre.length + 1) c')).heap[l]? = some (.loop lo) := (Below.heap_setCell _ _ _ _ (fun e => nlb e.symm)).trans L6
  have hgl : g' ≠ l := by
    rcases HV with h | h
    · exact fun e => nlr (by rw [← h, e])
    · rw [World.size_alloc] at h; omega
  have hbl : bt < W.heap.size := HJ.box.lt
  have hgb : g' ≠ bt := by
    rcases HV with h | h
    · exact fun e => nbr (by rw [← h, e])
    · rw [World.size_alloc] at h; omega
  have OZ : Only (fun k => k = bt ∨ k = l ∨ (Value.slice ya pre.length yc).ownBlock = some k) W ((w6.setCell ⟨bt, 0, none⟩ (.slice (some ⟨g', 0, none⟩) (pre.length + 1) c')).putObj l (.loop rec)) :=
    (((((OA.mono (fun k _ h => .inr (.inl h))).trans (Only.none (gb_drew (gb_refl W4 none)))).trans (Only.none (gb_alloc g5 _))).trans (Only.of HG (fun k e _ => .inr (.inr e)))).trans (Only.of (gb_setB (gb_refl w6 _) _) (fun k e _ => .inl (by cases e; rfl)))).trans ((only_put _ _ _).mono (fun k _ h => .inr (.inl h)))
  have OZF : Only Fc W ((w6.setCell ⟨bt, 0, none⟩ (.slice (some ⟨g', 0, none⟩) (pre.length + 1) c')).putObj l (.loop rec)) := OZ.mono (fun k _ hk => by
    rcases hk with rfl | rfl | hk
    · exact HJ.fbt
    · exact HJ.fl
    · exact HJ.frow k hk)
  have hs7 : (w6.setCell ⟨bt, 0, none⟩ (.slice (some ⟨g', 0, none⟩) (pre.length + 1) c')).heap.size = w6.heap.size := by simp [World.setCell]
  have V6 : w6.ownsRow 0 2 1 (.slice a5 n c5) n (vals (st pre.length) n) := by
    refine ownsRow_keep (ownsRow_drop V5 (Nat.zero_le _)) (fun k e => ?_)
    have h1 := V5.lt k e
    refine (HG.block k (by rw [World.size_alloc]; omega) (fun e2 => ?_)).trans (Below.heap_alloc u5 _ k h1.2)
    have h2 := (R4.lt k e2.symm).2
    have h3 : W4.drew.heap.size = W4.heap.size := rfl
    omega
  refine ⟨L7, fun k => Fc k ∨ (W.heap.size ≤ k ∧ k < w6.heap.size), ⟨some ⟨g', 0, none⟩, c', us ++ [.slice a5 n c5], ?_⟩, fun k hk => by rw [hs7]; exact hk, OZF⟩
  rw [List.length_append]
  refine js_add HJ (ownsRow_keep V6 (fun k e => ?_)) (fun k e => .inr ?_) OZ FLT ?_ ?_ (World.putObj_heap_same (by simp [World.setCell]; omega)) (fun k hk => .inl hk) ?_
  · have h1 := V5.lt k e
    have h3 : W4.drew.heap.size = W4.heap.size := rfl
    exact (World.putObj_heap_other (by omega)).trans (Below.heap_setCell _ _ _ _ (by dsimp only; omega))
  · have h1 := V5.lt k e
    have h3 : W4.drew.heap.size = W4.heap.size := rfl
    omega
  · exact (B6.set 0 (.slice (some ⟨g', 0, none⟩) (pre.length + 1) c')).keep (World.putObj_heap_other nlb)
  · exact ownsRow_keep HO (fun k e => by cases e; exact (World.putObj_heap_other hgl).trans (Below.heap_setCell _ _ _ _ hgb))
  · rcases HV with h | h
    · exact .inl (HJ.frow g' h.symm)
    · rw [World.size_alloc] at h
      exact .inr ⟨by omega, (HO.lt g' rfl).2⟩

set_option maxHeartbeats 4000000 in
theorem states_any (a1 : Option Addr) (n c1 : Nat) (z : Nat → Int) (a2 : Option Addr) (len cap : Nat) (e : Evs) (w : World) (hZ : IsNums .i64 w a1 n z) (hL : IsEvs w a2 len e) (hn : n ≤ 1000000) (hlen : len ≤ 10000) :
    Calls Try.prog 11 #[.slice a1 n c1, .slice a2 len cap] w fun r w' => ∃ a c us, r = .returned (.slice a us.length c) ∧ Hid (us.length = (cacs e len).length + 1) ∧ Hid (w.grownBy w' none) ∧ Hid (w'.ownsRow w.heap.size 22 1 (.slice a us.length c) us.length us) ∧ Hid (∀ i u, us[i]? = some u → RowAt w' w.heap.size n (stAt z (cacs e len) i) u) := by
  have HZ := Lib.hid hZ
  have HL := Lib.hid hL
  clear hZ hL
  refine (callsIn_wide (n := 5)).1 ?_
  refine callsIn_of_wp_marks Try.func11 rfl trivial ?_ rfl
  simp only [Try.ntmps11, List.size_toArray, List.length_cons, List.length_nil, Nat.reduceAdd, Nat.reduceSub, Array.replicate_succ, Array.replicate_zero, List.push_toArray, List.append_toArray, List.nil_append, List.cons_append]
  have BT := Lib.hid (Blk.made w 25 #[.slice none 0 0])
  have GA := Lib.hid (World.grownBy_alloc w (.cells #[.slice none 0 0] 25) none)
  gi_wp2_with (first | (refine ⟨trivial, ?_⟩; gi_at_call 27; refine (callsIn_wide.2 (states_fn a1 n c1 a2 len cap _)).mono ?_; rintro r u1 ⟨rfl, rfl⟩) | gi_in)
  obtain ⟨i0, hi0, hz00, hz10, hz20⟩ := info_parts infoRow
  have hi := Lib.hid hi0
  have hz0 := Lib.hid hz00
  have hz1 := Lib.hid hz10
  have hz2 := Lib.hid hz20
  clear hi0 hz00 hz10 hz20
  have BF := Lib.hid (Blk.made (w.alloc (.cells #[.slice none 0 0] 25)) 22 #[.slice a1 n c1])
  have BL := Lib.hid (Blk.made ((w.alloc (.cells #[.slice none 0 0] 25)).alloc (.cells #[.slice a1 n c1] 22)) 23 #[.slice a2 len cap])
  have BF2 := Lib.hid (BF.out.alloc (.cells #[.slice a2 len cap] 23))
  have BT2 := Lib.hid ((BT.out.alloc (.cells #[.slice a1 n c1] 22)).alloc (.cells #[.slice a2 len cap] 23))
  have G2 := Lib.hid (gb_alloc (gb_alloc GA.out (.cells #[.slice a1 n c1] 22)) (.cells #[.slice a2 len cap] 23))
  have S2 := Lib.hid (show (((w.alloc (.cells #[.slice none 0 0] 25)).alloc (.cells #[.slice a1 n c1] 22)).alloc (.cells #[.slice a2 len cap] 23)).heap.size = w.heap.size + 3 by simp)
  clear BT GA BF
  generalize ((w.alloc (.cells #[.slice none 0 0] 25)).alloc (.cells #[.slice a1 n c1] 22)).alloc (.cells #[.slice a2 len cap] 23) = u2 at *
  simp only [size_alloc] at BF2 BL
  generalize hbt : w.heap.size = bt at *
  have HBT := Lib.hid hbt
  clear hbt
  generalize hst : stAt z (cacs e len) = st at *
  have HST := Lib.hid hst
  clear hst
  refine wpIn_range_take rfl (by omega) (gf := 43) (bnd := #[]) (lb := #[.pointer (some ⟨bt + 1, 0, none⟩), .pointer (some ⟨bt + 1 + 1, 0, none⟩)]) rfl trivial (enters_of Try.func43 (by kernel_rfl) rfl) ?_
  intro fn hfn rec hrec
  have HREC := Lib.hid hrec
  clear hrec
  have HT : TakesV 3 (u2.heap.size + 1) n st (JS (u2.heap.size + 1) u2.heap.size rec bt n st) := by
    intro pre a c W Fc hJ hall hrow hdis hFl hpre
    obtain ⟨ya, yc, us, J⟩ := hJ
    have HJ := Lib.hid J
    have HROW := Lib.hid hrow
    have HDIS := Lib.hid hdis
    have FLT : Hid (∀ k, Fc k → k < W.heap.size) := Lib.hid hFl
    refine yield_take HREC.out J.loop.1 rfl hfn ?_
    clear J hrow hdis hFl hall
    gi_wp2
    refine ⟨HJ.out.loop.1, ?_⟩
    obtain ⟨W4, hW4⟩ : ∃ W4, W4 = W.putObj (u2.heap.size + 1) (.loop { rec with state := .busy }) := ⟨_, rfl⟩
    rw [← hW4]
    have lt1 := FLT.out _ HJ.out.fl
    have K4 : Hid (∀ k, k ≠ u2.heap.size + 1 → W4.heap[k]? = W.heap[k]?) := Lib.hid (fun k hne => by rw [hW4, World.putObj_heap_other hne])
    have L4 : Hid (W4.heap[u2.heap.size + 1]? = some (.loop { rec with state := .busy })) := Lib.hid (by rw [hW4]; exact World.putObj_heap_same lt1)
    have S4 : Hid (W4.heap.size = W.heap.size) := Lib.hid (by rw [hW4]; simp)
    have OA : Hid (Only (fun k => k = u2.heap.size + 1) W W4) := Lib.hid (by rw [hW4]; exact only_put W _ _)
    clear hW4
    have ncl : ∀ k ty cs, W.heap[k]? = some (.cells cs ty (0, 0)) → k ≠ u2.heap.size + 1 := fun k ty cs hk e => by
      have := HJ.out.loop.1
      rw [← e, hk] at this
      cases this
    have B4 : Hid (Blk 25 W4.drew bt #[.slice ya pre.length yc]) := Lib.hid (HJ.out.box.keep (K4.out _ (ncl _ _ _ HJ.out.box)))
    have R4 : Hid (W4.drew.ownsRow 0 22 1 (.slice ya pre.length yc) pre.length us) := Lib.hid (ownsRow_keep HJ.out.row (fun k e => K4.out k (by obtain ⟨cs, hc⟩ := ownsRow_type HJ.out.row e; exact ncl _ _ _ hc)))
    have NV : Hid (IsNums .i64 W4.drew a n (st pre.length)) := Lib.hid (IsNums.of_own (ownsRow_keep HROW.out (fun k e => K4.out k (by obtain ⟨cs, hc⟩ := ownsRow_type HROW.out e; exact ncl _ _ _ hc))))
    have NBT : Hid ((Value.slice ya pre.length yc).ownBlock ≠ some bt) := Lib.hid (fun e => by
      obtain ⟨cs, hc⟩ := ownsRow_type R4.out e
      have h9 := B4.out
      unfold Blk at h9
      rw [hc] at h9
      injection h9 with h9
      injection h9 with _ h9
      exact absurd h9 (by decide))
    have b4 : W4.drew.cell? ⟨bt, 0, none⟩ = some (.slice ya pre.length yc) := B4.out.cell 0
    gi_wp2_with fail
    refine wpIn_region_round (by kernel_rfl) (by kernel_rfl) ?_
    refine wpAnyIn_ready (rs := [0, 1]) (by kernel_rfl) (by simp) ?_
    refine AllReadyIn.cons rfl (fun K hK => ?_) (AllReadyIn.cons rfl (fun K hK => ?_) AllReadyIn.nil)
    · go_simp; refine hK _ _ ?_; clear hK K
      refine wpAnyIn_ready (rs := [1]) (by kernel_rfl) (by simp) ?_; refine AllReadyIn.cons rfl (fun K hK => ?_) AllReadyIn.nil; go_simp; refine hK _ _ ?_; clear hK K
      refine wpAnyIn_ready (rs := [2]) (by kernel_rfl) (by simp) ?_; refine AllReadyIn.cons rfl (fun K hK => ?_) AllReadyIn.nil; refine stepIn_call rfl 28 #[.slice a n c] (by simp [Act.eval, Act.put, go_sem]) (copied_any a n c (st pre.length) _ NV.out hn) ?_; rintro r5 u5 ⟨a5, c5, rfl, hr5, g5⟩; refine ⟨_, rfl, hK _ _ ?_⟩; clear hK K; have V5 := Lib.hid hr5.out; have G5 := Lib.hid g5.out; have B5 := Lib.hid (B4.out.grown g5.out (by simp)); have R5 := Lib.hid (ownsRow_keep R4.out (fun k e => g5.out.block k (R4.out.lt k e).2 (by simp))); have b5 : u5.cell? ⟨bt, 0, none⟩ = some (.slice ya pre.length yc) := B5.out.cell 0; have b6 : (u5.alloc (.cells #[.slice a5 n c5] 22)).cell? ⟨bt, 0, none⟩ = some (.slice ya pre.length yc) := (B5.out.alloc _).cell 0; clear hr5 g5
      refine wpAnyIn_ready (rs := [3]) (by kernel_rfl) (by simp) ?_; refine AllReadyIn.cons rfl (fun K hK => ?_) AllReadyIn.nil; go_simp; refine hK _ _ ?_; clear hK K
      refine wpAnyIn_ready (rs := [4]) (by kernel_rfl) (by simp) ?_; refine AllReadyIn.cons rfl (fun K hK => ?_) AllReadyIn.nil; refine stepIn_append_at rfl (.tmp 11) (.tmp 14) 25 rfl 0 22 i0 (.slice none 0 0) 1 24 Try.underlying25 hi.out hz0.out hz1.out hz2.out rfl (by decide) (.slice ya pre.length yc) pre.length us rfl (R5.out.alloc _) ⟨u5.heap.size, 0, none⟩ 1 1 [.slice a5 n c5] rfl rfl (new_cells u5 _ _) (by intro u hu; simp at hu; subst hu; rfl) (by unfold maxLen; omega) (by omega) (by simp) (by decide) ?_; intro g' c' w6 ho hg hv; refine hK _ _ ?_; clear hK K; have HO := Lib.hid ho; have HG := Lib.hid hg; have HV := Lib.hid hv; have B6 := Lib.hid ((B5.out.alloc (.cells #[.slice a5 n c5] 22)).grown hg (fun e => NBT.out e.symm)); have b7 : w6.cell? ⟨bt, 0, none⟩ = some (.slice ya pre.length yc) := B6.out.cell 0; have f7 := B6.out.free 0; clear ho hg hv
      refine wpAnyIn_ready (rs := [5]) (by kernel_rfl) (by simp) ?_; refine AllReadyIn.cons rfl (fun K hK => ?_) AllReadyIn.nil; go_simp; refine hK _ _ ?_; clear hK K
      refine wpAnyIn_done (by kernel_rfl) ?_ _; obtain ⟨q1, q2⟩ := js_end (x := .slice a n c) HJ.out FLT.out OA.out L4.out S4.out G5.out V5.out B6.out R4.out HO.out HG.out HV.out; exact ⟨rfl, q1, q2⟩
    · go_simp; refine hK _ _ ?_; clear hK K
      refine wpAnyIn_ready (rs := [0, 2]) (by kernel_rfl) (by simp) ?_
      refine AllReadyIn.cons rfl (fun K hK => ?_) (AllReadyIn.cons rfl (fun K hK => ?_) AllReadyIn.nil)
      · go_simp; refine hK _ _ ?_; clear hK K
        refine wpAnyIn_ready (rs := [2]) (by kernel_rfl) (by simp) ?_; refine AllReadyIn.cons rfl (fun K hK => ?_) AllReadyIn.nil; refine stepIn_call rfl 28 #[.slice a n c] (by simp [Act.eval, Act.put, go_sem]) (copied_any a n c (st pre.length) _ NV.out hn) ?_; rintro r5 u5 ⟨a5, c5, rfl, hr5, g5⟩; refine ⟨_, rfl, hK _ _ ?_⟩; clear hK K; have V5 := Lib.hid hr5.out; have G5 := Lib.hid g5.out; have B5 := Lib.hid (B4.out.grown g5.out (by simp)); have R5 := Lib.hid (ownsRow_keep R4.out (fun k e => g5.out.block k (R4.out.lt k e).2 (by simp))); have b5 : u5.cell? ⟨bt, 0, none⟩ = some (.slice ya pre.length yc) := B5.out.cell 0; have b6 : (u5.alloc (.cells #[.slice a5 n c5] 22)).cell? ⟨bt, 0, none⟩ = some (.slice ya pre.length yc) := (B5.out.alloc _).cell 0; clear hr5 g5
        refine wpAnyIn_ready (rs := [3]) (by kernel_rfl) (by simp) ?_; refine AllReadyIn.cons rfl (fun K hK => ?_) AllReadyIn.nil; go_simp; refine hK _ _ ?_; clear hK K
        refine wpAnyIn_ready (rs := [4]) (by kernel_rfl) (by simp) ?_; refine AllReadyIn.cons rfl (fun K hK => ?_) AllReadyIn.nil; refine stepIn_append_at rfl (.tmp 11) (.tmp 14) 25 rfl 0 22 i0 (.slice none 0 0) 1 24 Try.underlying25 hi.out hz0.out hz1.out hz2.out rfl (by decide) (.slice ya pre.length yc) pre.length us rfl (R5.out.alloc _) ⟨u5.heap.size, 0, none⟩ 1 1 [.slice a5 n c5] rfl rfl (new_cells u5 _ _) (by intro u hu; simp at hu; subst hu; rfl) (by unfold maxLen; omega) (by omega) (by simp) (by decide) ?_; intro g' c' w6 ho hg hv; refine hK _ _ ?_; clear hK K; have HO := Lib.hid ho; have HG := Lib.hid hg; have HV := Lib.hid hv; have B6 := Lib.hid ((B5.out.alloc (.cells #[.slice a5 n c5] 22)).grown hg (fun e => NBT.out e.symm)); have b7 : w6.cell? ⟨bt, 0, none⟩ = some (.slice ya pre.length yc) := B6.out.cell 0; have f7 := B6.out.free 0; clear ho hg hv
        refine wpAnyIn_ready (rs := [5]) (by kernel_rfl) (by simp) ?_; refine AllReadyIn.cons rfl (fun K hK => ?_) AllReadyIn.nil; go_simp; refine hK _ _ ?_; clear hK K
        refine wpAnyIn_done (by kernel_rfl) ?_ _; obtain ⟨q1, q2⟩ := js_end (x := .slice a n c) HJ.out FLT.out OA.out L4.out S4.out G5.out V5.out B6.out R4.out HO.out HG.out HV.out; exact ⟨rfl, q1, q2⟩
      · refine stepIn_call rfl 28 #[.slice a n c] (by simp [Act.eval, Act.put, go_sem]) (copied_any a n c (st pre.length) _ NV.out hn) ?_; rintro r5 u5 ⟨a5, c5, rfl, hr5, g5⟩; refine ⟨_, rfl, hK _ _ ?_⟩; clear hK K; have V5 := Lib.hid hr5.out; have G5 := Lib.hid g5.out; have B5 := Lib.hid (B4.out.grown g5.out (by simp)); have R5 := Lib.hid (ownsRow_keep R4.out (fun k e => g5.out.block k (R4.out.lt k e).2 (by simp))); have b5 : u5.cell? ⟨bt, 0, none⟩ = some (.slice ya pre.length yc) := B5.out.cell 0; have b6 : (u5.alloc (.cells #[.slice a5 n c5] 22)).cell? ⟨bt, 0, none⟩ = some (.slice ya pre.length yc) := (B5.out.alloc _).cell 0; clear hr5 g5
        refine wpAnyIn_ready (rs := [0, 3]) (by kernel_rfl) (by simp) ?_
        refine AllReadyIn.cons rfl (fun K hK => ?_) (AllReadyIn.cons rfl (fun K hK => ?_) AllReadyIn.nil)
        · go_simp; refine hK _ _ ?_; clear hK K
          refine wpAnyIn_ready (rs := [3]) (by kernel_rfl) (by simp) ?_; refine AllReadyIn.cons rfl (fun K hK => ?_) AllReadyIn.nil; go_simp; refine hK _ _ ?_; clear hK K
          refine wpAnyIn_ready (rs := [4]) (by kernel_rfl) (by simp) ?_; refine AllReadyIn.cons rfl (fun K hK => ?_) AllReadyIn.nil; refine stepIn_append_at rfl (.tmp 11) (.tmp 14) 25 rfl 0 22 i0 (.slice none 0 0) 1 24 Try.underlying25 hi.out hz0.out hz1.out hz2.out rfl (by decide) (.slice ya pre.length yc) pre.length us rfl (R5.out.alloc _) ⟨u5.heap.size, 0, none⟩ 1 1 [.slice a5 n c5] rfl rfl (new_cells u5 _ _) (by intro u hu; simp at hu; subst hu; rfl) (by unfold maxLen; omega) (by omega) (by simp) (by decide) ?_; intro g' c' w6 ho hg hv; refine hK _ _ ?_; clear hK K; have HO := Lib.hid ho; have HG := Lib.hid hg; have HV := Lib.hid hv; have B6 := Lib.hid ((B5.out.alloc (.cells #[.slice a5 n c5] 22)).grown hg (fun e => NBT.out e.symm)); have b7 : w6.cell? ⟨bt, 0, none⟩ = some (.slice ya pre.length yc) := B6.out.cell 0; have f7 := B6.out.free 0; clear ho hg hv
          refine wpAnyIn_ready (rs := [5]) (by kernel_rfl) (by simp) ?_; refine AllReadyIn.cons rfl (fun K hK => ?_) AllReadyIn.nil; go_simp; refine hK _ _ ?_; clear hK K
          refine wpAnyIn_done (by kernel_rfl) ?_ _; obtain ⟨q1, q2⟩ := js_end (x := .slice a n c) HJ.out FLT.out OA.out L4.out S4.out G5.out V5.out B6.out R4.out HO.out HG.out HV.out; exact ⟨rfl, q1, q2⟩
        · go_simp; refine hK _ _ ?_; clear hK K
          refine wpAnyIn_ready (rs := [0]) (by kernel_rfl) (by simp) ?_; refine AllReadyIn.cons rfl (fun K hK => ?_) AllReadyIn.nil; go_simp; refine hK _ _ ?_; clear hK K
          refine wpAnyIn_ready (rs := [4]) (by kernel_rfl) (by simp) ?_; refine AllReadyIn.cons rfl (fun K hK => ?_) AllReadyIn.nil; refine stepIn_append_at rfl (.tmp 11) (.tmp 14) 25 rfl 0 22 i0 (.slice none 0 0) 1 24 Try.underlying25 hi.out hz0.out hz1.out hz2.out rfl (by decide) (.slice ya pre.length yc) pre.length us rfl (R5.out.alloc _) ⟨u5.heap.size, 0, none⟩ 1 1 [.slice a5 n c5] rfl rfl (new_cells u5 _ _) (by intro u hu; simp at hu; subst hu; rfl) (by unfold maxLen; omega) (by omega) (by simp) (by decide) ?_; intro g' c' w6 ho hg hv; refine hK _ _ ?_; clear hK K; have HO := Lib.hid ho; have HG := Lib.hid hg; have HV := Lib.hid hv; have B6 := Lib.hid ((B5.out.alloc (.cells #[.slice a5 n c5] 22)).grown hg (fun e => NBT.out e.symm)); have b7 : w6.cell? ⟨bt, 0, none⟩ = some (.slice ya pre.length yc) := B6.out.cell 0; have f7 := B6.out.free 0; clear ho hg hv
          refine wpAnyIn_ready (rs := [5]) (by kernel_rfl) (by simp) ?_; refine AllReadyIn.cons rfl (fun K hK => ?_) AllReadyIn.nil; go_simp; refine hK _ _ ?_; clear hK K
          refine wpAnyIn_done (by kernel_rfl) ?_ _; obtain ⟨q1, q2⟩ := js_end (x := .slice a n c) HJ.out FLT.out OA.out L4.out S4.out G5.out V5.out B6.out R4.out HO.out HG.out HV.out; exact ⟨rfl, q1, q2⟩
  have HT2 := Lib.hid HT
  clear HT
  have hst := HST.out
  subst hst
  refine (states_in 4 (by omega) (u2.heap.size + 1) a1 n c1 z a2 len cap e (bt + 1) (bt + 1 + 1) _ (js_firm (u2.heap.size + 1) u2.heap.size rec bt n _) HT2.out w ((u2.alloc (.deferred (some []))).alloc (.loop rec)) HZ.out HL.out hn hlen ((BF2.out.alloc _).alloc _) ((BL.out.alloc _).alloc _) (fun k => k = bt ∨ (u2.heap.size ≤ k ∧ k < u2.heap.size + 2))
    ⟨none, 0, [], ⟨rfl, (BT2.out.alloc _).alloc _, World.ownsRow_nil _ _ _ _, by simp, ⟨?_, ?_⟩, .inl rfl, .inr ⟨by omega, by omega⟩, .inr ⟨by omega, by omega⟩, (by intro k e; cases e), (by simp)⟩⟩ ?_ ?_ ?_).mono ?_
  · have := World.alloc_heap_new (u2.alloc (.deferred (some []))) (.loop rec)
    rwa [World.size_alloc] at this
  · exact (Below.heap_alloc _ _ _ (by simp)).trans (World.alloc_heap_new u2 _)
  · have hsz := S2.out
    rintro (h | h) <;> omega
  · have hsz := S2.out
    have hbt := HBT.out
    rintro k (rfl | h)
    · exact ⟨by omega, by simp; omega⟩
    · exact ⟨by omega, by simp; omega⟩
  · exact bl_none (Below.refl _ _) (gb_alloc (gb_alloc G2.out _) _)
  rintro r W' ⟨rfl, xs, Fc, a, c, ⟨ya, yc, us, J⟩, hxl, hall, hrow, hfr, hFc, hBel⟩
  refine ⟨⟨_, rfl⟩, J.loop, fun o' => ?_⟩
  obtain ⟨W5, hW5⟩ : ∃ W5, W5 = W'.putObj (u2.heap.size + 1) o' := ⟨_, rfl⟩
  rw [← hW5]
  have ncl : ∀ (k : Nat) (ty : TypeId) (cs : Array Value), W'.heap[k]? = some (.cells cs ty (0, 0)) → W5.heap[k]? = W'.heap[k]? := fun k ty cs hk => by
    rw [hW5]
    refine World.putObj_heap_other (fun e => ?_)
    have := J.loop.1
    rw [← e, hk] at this
    cases this
  have hul := J.len
  have BT5 := Lib.hid (J.box.keep (ncl _ _ _ J.box))
  have RO5 : Hid (W5.ownsRow w.heap.size 22 1 (.slice ya us.length yc) us.length us) := Lib.hid (by
    rw [hul]
    have h := ownsRow_keep (w' := W5) J.row (fun k e => by obtain ⟨cs, hc⟩ := ownsRow_type J.row e; exact ncl _ _ _ hc)
    refine ⟨h.1, h.2.imp id ?_⟩
    rintro ⟨q, cap', cur, e1, _, rest⟩
    exact ⟨q, cap', cur, e1, (hFc q (J.frow q (by rw [e1]; rfl))).1, rest⟩)
  have EA5 : Hid (∀ i u, us[i]? = some u → RowAt W5 w.heap.size n (stAt z (cacs e len) i) u) := Lib.hid (fun i u hu => by
    obtain ⟨a3, c3, e1, h3⟩ := J.each i u hu
    have h := ownsRow_keep (w' := W5) h3 (fun k e => by obtain ⟨cs, hc⟩ := ownsRow_type h3 e; exact ncl _ _ _ hc)
    refine ⟨a3, c3, e1, h.1, h.2.imp id ?_⟩
    rintro ⟨q, cap', cur, e2, _, rest⟩
    exact ⟨q, cap', cur, e2, (hFc q (J.feach u (List.mem_of_getElem? hu) q (by rw [e2]; rfl))).1, rest⟩)
  have BE5 : Hid (Below w.heap.size w W5) := Lib.hid (by rw [hW5]; exact (only_put W' _ o').below hBel hBel.size (fun k hk => by have := S2.out; have := HBT.out; omega))
  have D5 : Hid (W5.heap[u2.heap.size]? = some (.deferred (some []))) := Lib.hid (by rw [hW5, World.putObj_heap_other (by omega)]; exact J.loop.2)
  have ULEN := Lib.hid (show us.length = (cacs e len).length + 1 by rw [hul, hxl])
  have hxu : xs.length = us.length := hul.symm
  rw [hxu] at BT5
  have t0 : W5.cell? ⟨bt, 0, none⟩ = some (.slice ya us.length yc) := BT5.out.cell 0
  clear J hW5 ncl HT2 HREC hxl hall hrow hfr hFc hBel hul hxu
  have ldef : ∀ (k : Nat) (ty : TypeId) (cs : Array Value), W5.heap[k]? = some (.cells cs ty (0, 0)) → (W5.putObj u2.heap.size (.deferred none)).heap[k]? = W5.heap[k]? := fun k ty cs hk => World.putObj_heap_other (fun e => by
    have := D5.out
    rw [← e, hk] at this
    cases this)
  have LDEF := Lib.hid ldef
  clear ldef
  gi_wp2
  refine ⟨by simp, .inl ⟨_, _, rfl, run_takeDeferred D5.out, ?_⟩⟩
  refine ⟨_, results_tmp rfl _ _ _, ya, yc, us, rfl, ULEN.out, gb_of_below ((only_put _ _ _).below BE5.out BE5.out.size (fun k hk => by have := S2.out; have := HBT.out; rw [hk]; omega)), ?_, fun i u hu => ?_⟩
  · exact ownsRow_keep RO5.out (fun k e => by obtain ⟨cs, hc⟩ := ownsRow_type RO5.out e; exact LDEF.out _ _ _ hc)
  · obtain ⟨a3, c3, e1, h3⟩ := EA5.out i u hu
    exact ⟨a3, c3, e1, ownsRow_keep h3 (fun k e => by obtain ⟨cs, hc⟩ := ownsRow_type h3 e; exact LDEF.out _ _ _ hc)⟩
end Go.Proofs.Ytdohepenmejcaaa.md

/- The document's own comparison of values: quarrelref01.Vals. -/
namespace Go.Proofs.Ytdohepenmejcaaa.md
open Go Go.RowKit Go.Proofs.Ytdohepenmejcaaa.base Go.Proofs.Ytdohepenmejcaaa.lg
set_option linter.unusedVariables false

/-- The same first n numbers? -/
def eqTo (f g : Nat → Int) : Nat → Bool
  | 0 => true
  | k + 1 => eqTo f g k && f k == g k
theorem eqTo_iff {f g : Nat → Int} : ∀ {n : Nat}, eqTo f g n = true ↔ ∀ i, i < n → f i = g i
  | 0 => by
    constructor
    · intro _ i hi; omega
    · intro _; rfl
  | n + 1 => by
    rw [eqTo, Bool.and_eq_true, eqTo_iff (n := n), beq_iff_eq]
    constructor
    · rintro ⟨h1, h2⟩ i hi
      by_cases e : i = n
      · subst e; exact h2
      · exact h1 i (by omega)
    · intro h
      exact ⟨fun i hi => h i (by omega), h n (by omega)⟩
theorem eqTo_self (f : Nat → Int) (n : Nat) : eqTo f f n = true := eqTo_iff.2 fun _ _ => rfl
theorem eqTo_bad {f g : Nat → Int} {n k : Nat} (hk : k < n) (h : f k ≠ g k) : eqTo f g n = false := by
  cases e : eqTo f g n with
  | false => rfl
  | true => exact absurd (eqTo_iff.1 e k hk) h

set_option maxHeartbeats 1000000 in
theorem vals_any (a b : Option Addr) (n m ca cb : Nat) (f g : Nat → Int) (w : World) (ha : IsNums .i64 w a n f) (hb : IsNums .i64 w b m g) (hm : n ≤ 100000) :
    Calls Try.prog 13 #[.slice a n ca, .slice b m cb] w fun e w' => e = .returned (.bool (decide (n = m) && eqTo f g n)) ∧ Hid (w.grownBy w' none) := by
  have HA := Lib.hid ha
  have HB := Lib.hid hb
  clear ha hb
  by_cases hnm : n = m
  · subst hnm
    rw [show (decide (n = n) && eqTo f g n) = eqTo f g n by simp]
    go_enter Try.func13, Try.ntmps13
    go_wp2_with fail
    go_loopw [5] (fun i wr => ∃ k : Nat, k ≤ n ∧ i = .int .i64 k ∧ Hid (eqTo f g k = true) ∧ Hid (w.grownBy wr none)) (fun i _ => (n - intOf i).toNat)
    case atStart => exact ⟨0, by omega, rfl, rfl, gb_refl _ _⟩
    case round =>
      obtain ⟨k, hk, rfl, HE, G⟩ := hrel
      by_cases hlt : k < n
      · obtain ⟨b1, o1, rfl, hb1, d1⟩ := (HA.out.grown G.out).at1 hlt
        obtain ⟨b2, o2, rfl, hb2, d2⟩ := (HB.out.grown G.out).at1 hlt
        have hlt' : (k : Int) < (n : Int) := by omega
        by_cases hfg : f k = g k
        · have HE1 := Lib.hid (show eqTo f g (k + 1) = true by rw [eqTo, HE.out, hfg]; simp)
          rw [← hfg] at d2
          clear hfg
          generalize f k = x at *
          go_wp2_with fail
          go_quiet (fail)
          go_wp2
          go_roundw
          case rel => exact ⟨k + 1, by omega, by go_num, HE1, by first | exact gb_drewN G.out _ | exact gb_drew (gb_drewN G.out _)⟩
          case measure => simp [intOf]; omega
        · have HE1 := Lib.hid (eqTo_bad hlt hfg)
          have hne : (f k != g k) = true := by simp [hfg]
          clear hfg
          generalize f k = x at *
          generalize g k = y at *
          go_wp2_with fail
          go_quiet (fail)
          go_wp2
          go_ret
          exact ⟨by rw [HE1.out]; rfl, by first | exact gb_drewN G.out _ | exact gb_drew (gb_drewN G.out _)⟩
      · obtain rfl : k = n := by omega
        go_wp2
        go_ret
        exact ⟨by rw [HE.out]; rfl, G⟩
  · have hne : ((n : Int) != (m : Int)) = true := by simp; omega
    rw [show (decide (n = m) && eqTo f g n) = false by simp [hnm]]
    clear hnm
    go_enter Try.func13, Try.ntmps13
    go_wp2
    go_ret
    exact ⟨rfl, gb_refl _ _⟩

theorem vals_yes (a b : Option Addr) (n ca cb : Nat) (f : Nat → Int) (w : World) (ha : IsNums .i64 w a n f) (hb : IsNums .i64 w b n f) (hm : n ≤ 100000) :
    Calls Try.prog 13 #[.slice a n ca, .slice b n cb] w fun e w' => e = .returned (.bool true) ∧ Hid (w.grownBy w' none) := by
  have h := vals_any a b n n ca cb f f w ha hb hm
  rwa [show (decide (n = n) && eqTo f f n) = true by simp [eqTo_self]] at h
end Go.Proofs.Ytdohepenmejcaaa.md

/- The document's example of chapter 18. -/
namespace Go.Proofs.Ytdohepenmejcaaa.md
open Go Go.RowKit Go.Proofs.Ytdohepenmejcaaa.base Go.Proofs.Ytdohepenmejcaaa.hs Go.Proofs.Ytdohepenmejcaaa.lg Go.Maps
set_option linter.unusedVariables false
set_option maxRecDepth 100000

def exM : Evs := fun i => match i with
  | 0 => ⟨1, 0, 0, 1, 0, 0, 0⟩
  | 1 => ⟨3, 0, 0, 1, 0, 7, 0⟩
  | _ => ⟨5, 0, 0, 1, 0, 0, 0⟩
theorem exM_right : right exM 3 = true := by decide
theorem exM_cacs : cacs exM 3 = [[⟨1, 3, 0, 7, false, false⟩]] := by decide

theorem exM_at {w : World} {b : Nat} (BX : Blk 58 w b #[.int .i64 1, .int .i64 0, .int .i64 0, .int .i64 1, .int .i64 0, .int .i64 0, .int .i64 0, .int .i64 3, .int .i64 0, .int .i64 0, .int .i64 1, .int .i64 0, .int .i64 7, .int .i64 0, .int .i64 5, .int .i64 0, .int .i64 0, .int .i64 1, .int .i64 0, .int .i64 0, .int .i64 0]) : IsEvs w (some ⟨b, 0, none⟩) 3 exM := by
  refine .inr ⟨_, 0, rfl, BX.lt, fun i hi => ⟨fun j hj => ?_, ?_⟩⟩
  · rw [BX.cell]
    match i, hi, j, hj with
    | 0, _, 0, _ => rfl
    | 0, _, 1, _ => rfl
    | 0, _, 2, _ => rfl
    | 0, _, 3, _ => rfl
    | 0, _, 4, _ => rfl
    | 0, _, 5, _ => rfl
    | 0, _, 6, _ => rfl
    | 1, _, 0, _ => rfl
    | 1, _, 1, _ => rfl
    | 1, _, 2, _ => rfl
    | 1, _, 3, _ => rfl
    | 1, _, 4, _ => rfl
    | 1, _, 5, _ => rfl
    | 1, _, 6, _ => rfl
    | 2, _, 0, _ => rfl
    | 2, _, 1, _ => rfl
    | 2, _, 2, _ => rfl
    | 2, _, 3, _ => rfl
    | 2, _, 4, _ => rfl
    | 2, _, 5, _ => rfl
    | 2, _, 6, _ => rfl
  · match i, hi with
    | 0, _ => exact ⟨by decide, by decide, by decide, by decide, by decide, by decide, by decide⟩
    | 1, _ => exact ⟨by decide, by decide, by decide, by decide, by decide, by decide, by decide⟩
    | 2, _ => exact ⟨by decide, by decide, by decide, by decide, by decide, by decide, by decide⟩

theorem one_at {w : World} {b : Nat} {x : Int} (B : Blk 2 w b #[.int .i64 x]) : IsNums .i64 w (some ⟨b, 0, none⟩) 1 (fun _ => x) := by
  refine .inr ⟨b, 0, rfl, B.lt, fun i hi => ?_⟩
  obtain rfl : i = 0 := by omega
  exact B.cell 0

set_option maxHeartbeats 2000000 in
theorem alive_any (w : World) : Calls Try.prog 9 #[] w fun r w' => r = .returned (.bool true) ∧ Hid (w.grownBy w' none) := by
  have BX := Lib.hid (Blk.made w 58 #[.int .i64 1, .int .i64 0, .int .i64 0, .int .i64 1, .int .i64 0, .int .i64 0, .int .i64 0, .int .i64 3, .int .i64 0, .int .i64 0, .int .i64 1, .int .i64 0, .int .i64 7, .int .i64 0, .int .i64 5, .int .i64 0, .int .i64 0, .int .i64 1, .int .i64 0, .int .i64 0, .int .i64 0])
  have GA := Lib.hid (World.grownBy_alloc w (.cells #[.int .i64 1, .int .i64 0, .int .i64 0, .int .i64 1, .int .i64 0, .int .i64 0, .int .i64 0, .int .i64 3, .int .i64 0, .int .i64 0, .int .i64 1, .int .i64 0, .int .i64 7, .int .i64 0, .int .i64 5, .int .i64 0, .int .i64 0, .int .i64 1, .int .i64 0, .int .i64 0, .int .i64 0] 58) none)
  have BY := Lib.hid (Blk.made (w.alloc (.cells #[.int .i64 1, .int .i64 0, .int .i64 0, .int .i64 1, .int .i64 0, .int .i64 0, .int .i64 0, .int .i64 3, .int .i64 0, .int .i64 0, .int .i64 1, .int .i64 0, .int .i64 7, .int .i64 0, .int .i64 5, .int .i64 0, .int .i64 0, .int .i64 1, .int .i64 0, .int .i64 0, .int .i64 0] 58)) 2 #[.int .i64 5])
  have BX2 := Lib.hid (BX.out.alloc (.cells #[.int .i64 5] 2))
  have GB := Lib.hid (gb_alloc GA.out (.cells #[.int .i64 5] 2))
  have HS := Lib.hid (states_any (some ⟨w.heap.size + 1, 0, none⟩) 1 1 (fun _ => 5) (some ⟨w.heap.size, 0, none⟩) 3 3 exM _ (by have h := one_at BY.out; rwa [World.size_alloc] at h) (exM_at BX2.out) (by omega) (by omega))
  clear BX BY BX2 GA
  go_enter Try.func9, Try.ntmps9
  go_wp2_with fail
  refine HS.out.mono ?_
  rintro r u1 ⟨a, c, us, rfl, h1, h2, h3, h4⟩
  have hlen := h1.out
  rw [exM_cacs] at hlen
  obtain ⟨x0, x1, rfl⟩ : ∃ x y, us = [x, y] := by
    match us, hlen with
    | [x, y], _ => exact ⟨x, y, rfl⟩
  obtain ⟨y0, k0, rfl, o0⟩ := h4.out 0 x0 rfl
  obtain ⟨y1, k1, rfl, o1⟩ := h4.out 1 x1 rfl
  have N0 := Lib.hid (show IsNums .i64 u1 y0 1 (fun _ => 5) from (IsNums.of_own o0).congr (fun i _ => by rw [exM_cacs]; rfl))
  have N1 := Lib.hid (show IsNums .i64 u1 y1 1 (fun _ => 7) from (IsNums.of_own o1).congr (fun i hi => by rw [exM_cacs]; obtain rfl : i = 0 := (by omega); rfl))
  obtain ⟨g, rfl⟩ : ∃ g, a = some ⟨g, 0, none⟩ := by
    rcases h3.out.2 with ⟨_, h⟩ | ⟨g, _, _, h, _⟩
    · cases h
    · injection h with h; exact ⟨g, h⟩
  have c0 : u1.cell? ⟨g, 0, none⟩ = some (.slice y0 1 k0) := h3.out.cellAt 0 (by simp)
  have c1 : u1.cell? ⟨g, 1, none⟩ = some (.slice y1 1 k1) := h3.out.cellAt 1 (by simp)
  have hgl := World.block_lt_of_cell? _ _ c0
  have G1 := Lib.hid (gb_trans GB.out h2.out)
  clear h1 h2 h3 h4 hlen HS GB o0 o1
  have BY := Lib.hid (Blk.made u1 2 #[.int .i64 5])
  have GC := Lib.hid (World.grownBy_alloc u1 (.cells #[.int .i64 5] 2) none)
  go_wp2_with fail
  refine (vals_yes _ _ 1 _ _ (fun _ => 5) _ (N0.out.grown GC.out) (one_at BY.out) (by omega)).mono ?_
  rintro r u2 ⟨rfl, g2⟩
  have e0 : u2.cell? ⟨g, 0, none⟩ = some (.slice y0 1 k0) := g2.out.cell (GC.out.cell c0 (by simp)) (by simp)
  have e1 : u2.cell? ⟨g, 1, none⟩ = some (.slice y1 1 k1) := g2.out.cell (GC.out.cell c1 (by simp)) (by simp)
  have G2 := Lib.hid (gb_trans (gb_trans G1.out GC.out) g2.out)
  have M1 := Lib.hid ((N1.out.grown GC.out).grown g2.out)
  have BZ := Lib.hid (Blk.made u2 2 #[.int .i64 7])
  have GD := Lib.hid (World.grownBy_alloc u2 (.cells #[.int .i64 7] 2) none)
  go_wp2_with fail
  refine (vals_yes _ _ 1 _ _ (fun _ => 7) _ (M1.out.grown GD.out) (one_at BZ.out) (by omega)).mono ?_
  rintro r u3 ⟨rfl, g3⟩
  go_wp2
  go_ret
  exact ⟨rfl, gb_trans (gb_trans G2.out GD.out) g3.out⟩
end Go.Proofs.Ytdohepenmejcaaa.md

/- What a walk is told of an argument that is a struct of numbers and bools, by value, and of a slice of such. Plain facts on memory, of no program. -/
namespace Go.Proofs.Ytdohepenmejcaaa.base
open Go Go.RowKit Go.ChangeShapes Go.WideShapes Go.Deep

/-- Field j: a bool where isB says so, else an int. -/
def mixed (isB : Nat → Bool) (z : Nat → Int) (y : Nat → Bool) (j : Nat) : Value := if isB j then .bool (y j) else .int .i64 (z j)

/-- A slice of structs of n fields, ints and bools. -/
def IsMix (n : Nat) (isB : Nat → Bool) (w : World) (a : Option Addr) (len cap : Nat) (z : Nat → Nat → Int) (y : Nat → Nat → Bool) : Prop :=
  len ≤ cap ∧ cap ≤ maxLen ∧ (len = 0 ∨ ∃ b off, a = some ⟨b, off, none⟩ ∧ b < w.heap.size ∧ ∀ i j, i < len → j < n → w.cell? ⟨b, off + (i * n + j), none⟩ = some (mixed isB (z i) (y i) j) ∧ (Lit.int .i64 (z i j)).wf = true)

theorem IsMix.below {n : Nat} {isB : Nat → Bool} {w w' : World} {a : Option Addr} {len cap : Nat} {z : Nat → Nat → Int} {y : Nat → Nat → Bool} (h : IsMix n isB w a len cap z y) (g : Below w.heap.size w w') : IsMix n isB w' a len cap z y := by
  obtain ⟨q1, q2, q3⟩ := h
  refine ⟨q1, q2, ?_⟩
  rcases q3 with q3 | ⟨b, off, rfl, hb, hc⟩
  · exact .inl q3
  · exact .inr ⟨b, off, rfl, Nat.lt_of_lt_of_le hb g.size, fun i j hi hj => ⟨(g.cell (p := ⟨b, off + (i * n + j), none⟩) hb).trans (hc i j hi hj).1, (hc i j hi hj).2⟩⟩

section
variable {H : Type} {enc : TypeId × Value → H} {P : Program} {w : World} {base : Nat} {held : Bool} {t e : TypeId} {fuel : Nat} {a : Option Addr} {len cap : Nat} {x : DataW H × List MemPlace}

/-- The fields of a struct's cells. -/
theorem mixed_of {fs : Array Field} {ti tb : TypeId} {n : Nat} {isB : Nat → Bool} {cs : List Value} (he : P.underlying t = some (.struct fs)) (hi : P.underlying ti = some (.int .i64)) (hb : P.underlying tb = some .bool) (hc1 : P.cellsOf ti = 1) (hc2 : P.cellsOf tb = 1)
    (hfs : ∀ j, j < n → (fs[j]?.map fun f => (f.offset, f.type)) = some (j, if isB j then tb else ti))
    (h : DataW.trod enc P w base (fun _ => true) held fuel t cs = some x) : ∃ (z : Nat → Int) (y : Nat → Bool), ∀ j, j < n → cs[j]? = some (mixed isB z y j) ∧ (Lit.int .i64 (z j)).wf = true := by
  obtain ⟨xs, n', _, _, hl1, _, hf⟩ := DataW.trod_struct he h
  obtain ⟨g, hg⟩ := choose_lt (α := Int × Bool) (n := n) (p := fun j v => cs[j]? = some (if isB j then .bool v.2 else .int .i64 v.1) ∧ (Lit.int .i64 v.1).wf = true) (fun j hj => by
    obtain ⟨fj, hfj, e2⟩ := Option.map_eq_some_iff.1 (hfs j hj)
    simp only [Prod.mk.injEq] at e2
    have e3 := hf j fj hfj
    have hc : P.cellsOf fj.type = 1 := by rw [e2.2]; split <;> assumption
    rw [hc, e2.1] at e3
    have hxs : j < xs.length := by
      rcases Nat.lt_or_ge j xs.length with h' | h'
      · exact h'
      · have := (Array.getElem?_eq_some_iff.1 hfj).1
        omega
    rw [List.getElem?_eq_getElem hxs] at e3
    have key : ∀ v : Value, (cs.drop j).take 1 = [v] → cs[j]? = some v := fun v hv => by
      have h0 : ((cs.drop j).take 1)[0]? = some v := by rw [hv]; rfl
      simpa using h0
    by_cases hB : isB j = true
    · rw [e2.2, if_pos hB] at e3
      obtain ⟨v, hv, _⟩ := DataW.trod_bool hb e3
      exact ⟨(0, v), by rw [if_pos hB]; exact key _ hv, (by decide : (Lit.int .i64 0).wf = true)⟩
    · rw [e2.2, if_neg hB] at e3
      obtain ⟨v, hv, _, hw⟩ := DataW.trod_int hi e3
      exact ⟨(v, false), by rw [if_neg hB]; exact key _ hv, hw⟩)
  exact ⟨fun j => (g j).1, fun j => (g j).2, fun j hj => hg j hj⟩

/-- A struct by value. -/
theorem isMix_of {fs : Array Field} {ti tb : TypeId} {n : Nat} (isB : Nat → Bool) {cs : Array Value} (he : P.underlying t = some (.struct fs)) (hi : P.underlying ti = some (.int .i64)) (hb : P.underlying tb = some .bool) (hc1 : P.cellsOf ti = 1) (hc2 : P.cellsOf tb = 1) (hsz : cs.size = n)
    (hfs : ∀ j, j < n → (fs[j]?.map fun f => (f.offset, f.type)) = some (j, if isB j then tb else ti))
    (h : DataW.trod enc P w base (fun _ => true) held fuel t (Value.agg cs).cells.toList = some x) : ∃ (z : Nat → Int) (y : Nat → Bool), (∀ j, j < n → (Lit.int .i64 (z j)).wf = true) ∧ cs = ⟨(List.range n).map (mixed isB z y)⟩ := by
  obtain ⟨z, y, hz⟩ := mixed_of (n := n) he hi hb hc1 hc2 hfs h
  refine ⟨z, y, fun j hj => (hz j hj).2, ?_⟩
  apply Array.ext'
  apply List.ext_getElem?
  intro j
  by_cases hj : j < n
  · have := (hz j hj).1
    simp only [Value.cells] at this
    rw [this]
    simp [hj]
  · rw [List.getElem?_eq_none (by simpa [hsz] using hj), List.getElem?_eq_none (by simpa using hj)]

/-- A slice of such. -/
theorem isMixes_of {fs : Array Field} {ti tb : TypeId} {n : Nat} (isB : Nat → Bool) (ht : P.underlying t = some (.slice e)) (he : P.underlying e = some (.struct fs)) (hi : P.underlying ti = some (.int .i64)) (hb : P.underlying tb = some .bool) (hc1 : P.cellsOf ti = 1) (hc2 : P.cellsOf tb = 1) (hc : P.cellsOf e = n) (hn : 0 < n)
    (hfs : ∀ j, j < n → (fs[j]?.map fun f => (f.offset, f.type)) = some (j, if isB j then tb else ti))
    (h : DataW.trod enc P w base (fun _ => true) held fuel t (Value.slice a len cap).cells.toList = some x) : ∃ z y, IsMix n isB w a len cap z y := by
  rcases open_slice ht h with ⟨hcs, _⟩ | ⟨c, l, m, k, f, D, Pl, hcs, _, hl, hm, hk, _, hel⟩
  · simp [Value.cells] at hcs
    obtain ⟨rfl, rfl, rfl⟩ := hcs
    exact ⟨fun _ _ => 0, fun _ _ => false, Nat.le_refl _, Nat.zero_le _, .inl rfl⟩
  · simp [Value.cells] at hcs
    obtain ⟨rfl, rfl, rfl⟩ := hcs
    simp only [if_true] at hk
    subst hk
    rw [hc] at hel
    obtain ⟨g, hg⟩ := choose_lt (α := (Nat → Int) × (Nat → Bool)) (n := len) (p := fun i v => ∀ j, j < n → w.cell? (c.add (i * n + j)) = some (mixed isB v.1 v.2 j) ∧ (Lit.int .i64 (v.1 j)).wf = true) (fun i hi' => by
      obtain ⟨cs', h1, h2⟩ := hel i (by omega)
      obtain ⟨_, hlen, hcell⟩ := World.cells?_some h1
      obtain ⟨z, y, hz⟩ := mixed_of (n := n) he hi hb hc1 hc2 hfs h2
      refine ⟨(z, y), fun j hj => ⟨?_, (hz j hj).2⟩⟩
      rw [← add_add, hcell j hj]
      exact (hz j hj).1)
    refine ⟨fun i => (g i).1, fun i => (g i).2, hl, hm, ?_⟩
    by_cases h0 : len = 0
    · exact .inl h0
    · obtain ⟨b, off, hbo⟩ := plain_of (hg 0 (by omega) 0 (by omega)).1
      have hb' := World.block_lt_of_cell? _ _ (hg 0 (by omega) 0 (by omega)).1
      have hc0 : c = ⟨b, off, none⟩ := by simpa [Addr.add] using hbo
      subst hc0
      refine .inr ⟨b, off, rfl, by simpa [Addr.add] using hb', fun i j hi hj => ⟨by rw [← add_eq]; exact (hg i hi j hj).1, (hg i hi j hj).2⟩⟩
end
end Go.Proofs.Ytdohepenmejcaaa.base

/- What a walk is told of an argument that is a try, by value. -/
namespace Go.Proofs.Ytdohepenmejcaaa.hs
open Go Go.RowKit Go.ChangeShapes Go.WideShapes Go.Deep Go.Proofs.Ytdohepenmejcaaa.base
set_option linter.unusedVariables false
set_option maxRecDepth 100000

/-- Its numbers are ints. -/
structure AccWf (a : Acc) : Prop where
  k : (Lit.int .i64 a.k).wf = true
  ob : (Lit.int .i64 a.ob).wf = true
  va : (Lit.int .i64 a.va).wf = true

section
variable {H : Type} {enc : TypeId × Value → H} {P : Program} {w : World} {base : Nat} {held : Bool} {t : TypeId} {fuel : Nat} {x : DataW H × List MemPlace}
/-- The cells of a struct of ints and bools, of several types. -/
theorem plain_wf {fs : Array Field} {n : Nat} {isB : Nat → Bool} {cs : List Value} (he : P.underlying t = some (.struct fs))
    (hfs : ∀ j, j < n → ∃ ti, (fs[j]?.map fun f => (f.offset, f.type)) = some (j, ti) ∧ P.cellsOf ti = 1 ∧ P.underlying ti = some (if isB j then .bool else .int .i64))
    (h : DataW.trod enc P w base (fun _ => true) held fuel t cs = some x) : ∃ (z : Nat → Int) (y : Nat → Bool), ∀ j, j < n → cs[j]? = some (mixed isB z y j) ∧ (Lit.int .i64 (z j)).wf = true := by
  obtain ⟨xs, n', _, _, hl1, _, hf⟩ := DataW.trod_struct he h
  obtain ⟨g, hg⟩ := choose_lt (α := Int × Bool) (n := n) (p := fun j v => cs[j]? = some (if isB j then .bool v.2 else .int .i64 v.1) ∧ (Lit.int .i64 v.1).wf = true) (fun j hj => by
    obtain ⟨ti, e1, hc, hu⟩ := hfs j hj
    obtain ⟨fj, hfj, e2⟩ := Option.map_eq_some_iff.1 e1
    simp only [Prod.mk.injEq] at e2
    have e3 := hf j fj hfj
    rw [e2.1, e2.2, hc] at e3
    have hxs : j < xs.length := by
      rcases Nat.lt_or_ge j xs.length with h' | h'
      · exact h'
      · have := (Array.getElem?_eq_some_iff.1 hfj).1
        omega
    rw [List.getElem?_eq_getElem hxs] at e3
    have key : ∀ v : Value, (cs.drop j).take 1 = [v] → cs[j]? = some v := fun v hv => by
      have h0 : ((cs.drop j).take 1)[0]? = some v := by rw [hv]; rfl
      simpa using h0
    by_cases hB : isB j = true
    · rw [if_pos hB] at hu
      obtain ⟨v, hv, _⟩ := DataW.trod_bool hu e3
      exact ⟨(0, v), by rw [if_pos hB]; exact key _ hv, (by decide : (Lit.int .i64 0).wf = true)⟩
    · rw [if_neg hB] at hu
      obtain ⟨v, hv, _, hw⟩ := DataW.trod_int hu e3
      exact ⟨(v, false), by rw [if_neg hB]; exact key _ hv, hw⟩)
  exact ⟨fun j => (g j).1, fun j => (g j).2, fun j hj => hg j hj⟩
end

section
variable {H : Type} {enc : TypeId × Value → H} {w : World} {base : Nat} {held : Bool} {fuel : Nat} {x : DataW H × List MemPlace}
theorem acc_of {cs : List Value} (h : DataW.trod enc Try.prog w base (fun _ => true) held fuel 54 cs = some x) : ∃ a : Acc, AccWf a ∧ ∀ (j : Nat) (u : Value), (accC a)[j]? = some u → cs[j]? = some u := by
  obtain ⟨z, y, h1⟩ := plain_wf (n := 6) (isB := fun j => j == 4 || j == 5) Try.underlying54 (by
    intro j hj
    rcases (by omega : j = 0 ∨ j = 1 ∨ j = 2 ∨ j = 3 ∨ j = 4 ∨ j = 5) with rfl | rfl | rfl | rfl | rfl | rfl
    · exact ⟨_, rfl, by kernel_rfl, by kernel_rfl⟩
    · exact ⟨_, rfl, by kernel_rfl, by kernel_rfl⟩
    · exact ⟨_, rfl, by kernel_rfl, by kernel_rfl⟩
    · exact ⟨_, rfl, by kernel_rfl, by kernel_rfl⟩
    · exact ⟨_, rfl, by kernel_rfl, by kernel_rfl⟩
    · exact ⟨_, rfl, by kernel_rfl, by kernel_rfl⟩) h
  refine ⟨⟨z 0, z 1, z 2, z 3, y 4, y 5⟩, ⟨(h1 1 (by omega)).2, (h1 2 (by omega)).2, (h1 3 (by omega)).2⟩, fun j u hu => ?_⟩
  have hj : j < 6 := (List.getElem?_eq_some_iff.1 hu).1
  rcases (by omega : j = 0 ∨ j = 1 ∨ j = 2 ∨ j = 3 ∨ j = 4 ∨ j = 5) with rfl | rfl | rfl | rfl | rfl | rfl
  · exact (h1 0 (by omega)).1.trans hu
  · exact (h1 1 (by omega)).1.trans hu
  · exact (h1 2 (by omega)).1.trans hu
  · exact (h1 3 (by omega)).1.trans hu
  · exact (h1 4 (by omega)).1.trans hu
  · exact (h1 5 (by omega)).1.trans hu

theorem accs_of {cs : List Value} (h : DataW.trod enc Try.prog w base (fun _ => true) held fuel 31 cs = some x) : ∃ (a : Option Addr) (cap : Nat) (l : List Acc), cs = [.slice a l.length cap] ∧ l.length ≤ cap ∧ cap ≤ maxLen ∧ IsL accC w a l ∧ ∀ y ∈ l, AccWf y := by
  rcases open_slice Try.underlying31 h with ⟨hcs, _⟩ | ⟨c, len, cap, k, f, D, Pl, hcs, _, hl, hm, hk, _, hel⟩
  · exact ⟨none, 0, [], hcs, Nat.le_refl _, Nat.zero_le _, .inl rfl, by simp⟩
  · simp only [if_true] at hk
    subst hk
    have k6 : Try.prog.cellsOf 54 = 6 := by kernel_rfl
    rw [k6] at hel
    obtain ⟨g, hg⟩ := choose_lt (α := Acc) (n := len) (p := fun i y => AccWf y ∧ ∀ (j : Nat) (u : Value), (accC y)[j]? = some u → w.cell? (c.add (i * 6 + j)) = some u) (fun i hi' => by
      obtain ⟨cs', h1, h2⟩ := hel i (by omega)
      obtain ⟨_, hlen, hcell⟩ := World.cells?_some h1
      obtain ⟨y, hy0, hy⟩ := acc_of h2
      refine ⟨y, hy0, fun j u hu => ?_⟩
      rw [← add_add, hcell j (by have := (List.getElem?_eq_some_iff.1 hu).1; exact this)]
      exact hy j u hu)
    refine ⟨some c, k, (List.range len).map g, by simpa using hcs, by simpa using hl, hm, ?_, fun y hy => ?_⟩
    · by_cases h0 : len = 0
      · subst h0; exact .inl rfl
      · obtain ⟨b, off, hbo⟩ := plain_of ((hg 0 (by omega)).2 0 _ rfl)
        have hb := World.block_lt_of_cell? _ _ ((hg 0 (by omega)).2 0 _ rfl)
        have hc0 : c = ⟨b, off, none⟩ := by simpa [Addr.add] using hbo
        subst hc0
        refine .inr ⟨b, off, rfl, by simpa [Addr.add] using hb, fun j u hu => ?_⟩
        have hj : j < len * 6 := by have := (List.getElem?_eq_some_iff.1 hu).1; rw [rows_length accC_len] at this; simpa using this
        have hx : ((List.range len).map g)[j / 6]? = some (g (j / 6)) := by simp [show j / 6 < len by omega]
        have e1 : j / 6 * 6 + j % 6 = j := by omega
        have hu2 := rows_get accC_len _ _ (j % 6) _ hx (by omega)
        rw [e1] at hu2
        rw [← add_eq, ← e1]
        exact (hg (j / 6) (by omega)).2 (j % 6) u (hu2.symm.trans hu)
    · obtain ⟨i, hi, rfl⟩ := List.mem_map.1 hy
      exact (hg i (by simpa using hi)).1

/-- A try by value: its cells, and its accesses. -/
theorem try_of {cs : Array Value} (hsz : cs.size = 9) (h0 : DataW.trod enc Try.prog w base (fun _ => true) held fuel 33 (Value.agg cs).cells.toList = some x) : ∃ (t : Tr) (va : Option Addr) (vc : Nat), cs = ⟨trC t (.slice va t.ac.length vc)⟩ ∧ t.ac.length ≤ vc ∧ vc ≤ maxLen ∧ IsL accC w va t.ac ∧ ∀ y ∈ t.ac, AccWf y := by
  have h : DataW.trod enc Try.prog w base (fun _ => true) held fuel 33 cs.toList = some x := h0
  obtain ⟨xs, n', _, _, _, hl1, hf⟩ := DataW.trod_struct Try.underlying33 h
  have hl : xs.length = 9 := hl1
  have k0 : Try.prog.cellsOf 3 = 1 := by kernel_rfl
  have k1 : Try.prog.cellsOf 4 = 1 := by kernel_rfl
  have k2 : Try.prog.cellsOf 31 = 1 := by kernel_rfl
  have key : ∀ (j : Nat) (v : Value), (cs.toList.drop j).take 1 = [v] → cs.toList[j]? = some v := fun j v hv => by
    have h0 : ((cs.toList.drop j).take 1)[0]? = some v := by rw [hv]; rfl
    simpa using h0
  have fi : ∀ j, j < 7 → ∃ v : Int, cs.toList[j]? = some (.int .i64 v) := fun j hj => by
    have e3 : DataW.trod enc Try.prog w base (fun _ => true) held n' 3 ((cs.toList.drop j).take 1) = xs[j]? := by
      rw [← k0]
      rcases (by omega : j = 0 ∨ j = 1 ∨ j = 2 ∨ j = 3 ∨ j = 4 ∨ j = 5 ∨ j = 6) with rfl | rfl | rfl | rfl | rfl | rfl | rfl
      · exact hf 0 _ rfl
      · exact hf 1 _ rfl
      · exact hf 2 _ rfl
      · exact hf 3 _ rfl
      · exact hf 4 _ rfl
      · exact hf 5 _ rfl
      · exact hf 6 _ rfl
    rw [List.getElem?_eq_getElem (by omega)] at e3
    obtain ⟨v, hv, _, _⟩ := DataW.trod_int Try.underlying3 e3
    exact ⟨v, key j _ hv⟩
  obtain ⟨v0, g0⟩ := fi 0 (by omega)
  obtain ⟨v1, g1⟩ := fi 1 (by omega)
  obtain ⟨v2, g2⟩ := fi 2 (by omega)
  obtain ⟨v3, g3⟩ := fi 3 (by omega)
  obtain ⟨v4, g4⟩ := fi 4 (by omega)
  obtain ⟨v5, g5⟩ := fi 5 (by omega)
  obtain ⟨v6, g6⟩ := fi 6 (by omega)
  have f7 : DataW.trod enc Try.prog w base (fun _ => true) held n' 4 ((cs.toList.drop 7).take (Try.prog.cellsOf 4)) = xs[7]? := hf 7 _ rfl
  have f8 : DataW.trod enc Try.prog w base (fun _ => true) held n' 31 ((cs.toList.drop 8).take (Try.prog.cellsOf 31)) = xs[8]? := hf 8 _ rfl
  rw [k1, List.getElem?_eq_getElem (by omega)] at f7
  rw [k2, List.getElem?_eq_getElem (by omega)] at f8
  obtain ⟨v7, g7, _⟩ := DataW.trod_bool Try.underlying4 f7
  obtain ⟨va, vc, l, g8, c1, c2, hL, hW⟩ := accs_of f8
  refine ⟨⟨v0, v1, v2, v3, v4, v5, v6, v7, l⟩, va, vc, ?_, c1, c2, hL, hW⟩
  have g7' := key 7 _ g7
  have g8' := key 8 _ g8
  apply Array.ext'
  apply List.ext_getElem?
  intro j
  by_cases hj : j < 9
  · rcases (by omega : j = 0 ∨ j = 1 ∨ j = 2 ∨ j = 3 ∨ j = 4 ∨ j = 5 ∨ j = 6 ∨ j = 7 ∨ j = 8) with rfl | rfl | rfl | rfl | rfl | rfl | rfl | rfl | rfl
    · exact g0
    · exact g1
    · exact g2
    · exact g3
    · exact g4
    · exact g5
    · exact g6
    · exact g7'
    · exact g8'
  · rw [List.getElem?_eq_none (by simpa [hsz] using hj), List.getElem?_eq_none (by simp [trC]; omega)]
end
end Go.Proofs.Ytdohepenmejcaaa.hs

/- What a walk is told of an argument that is a list of lists of lists of operations. -/
namespace Go.Proofs.Ytdohepenmejcaaa.md
open Go Go.RowKit Go.ChangeShapes Go.WideShapes Go.Deep Go.Proofs.Ytdohepenmejcaaa.base Go.Proofs.Ytdohepenmejcaaa.hs Go.Proofs.Ytdohepenmejcaaa.lg
set_option linter.unusedVariables false
set_option maxRecDepth 100000

/-- A transaction: how many operations, and which. -/
structure Txn where
  n : Nat
  z : Nat → Nat → Int
instance : Inhabited Txn := ⟨⟨0, fun _ _ => 0⟩⟩

/-- The things of l lie where a says, a cell each, as p says. -/
def Lies {α : Type} (w : World) (p : α → Value → Prop) (a : Option Addr) (l : List α) : Prop :=
  l = [] ∨ ∃ b off, a = some ⟨b, off, none⟩ ∧ b < w.heap.size ∧ ∀ i y, l[i]? = some y → ∃ v, w.cell? ⟨b, off + i, none⟩ = some v ∧ p y v
theorem Lies.keep {α : Type} {w w' : World} {p q : α → Value → Prop} {a : Option Addr} {l : List α} (h : Lies w p a l) (hp : ∀ y v, p y v → q y v) (g : w.grownBy w' none) : Lies w' q a l := by
  rcases h with h | ⟨b, off, h1, h2, h3⟩
  · exact .inl h
  · refine .inr ⟨b, off, h1, Nat.lt_of_lt_of_le h2 g.size, fun i y hy => ?_⟩
    obtain ⟨v, h4, h5⟩ := h3 i y hy
    exact ⟨v, g.cell h4 (by simp), hp _ _ h5⟩
theorem Lies.at {α : Type} {w : World} {p : α → Value → Prop} {a : Option Addr} {l : List α} (h : Lies w p a l) {i : Nat} {y : α} (hy : l[i]? = some y) : ∃ b off v, a = some ⟨b, off, none⟩ ∧ b < w.heap.size ∧ w.cell? ⟨b, off + i, none⟩ = some v ∧ p y v := by
  rcases h with h | ⟨b, off, h1, h2, h3⟩
  · rw [h] at hy; simp at hy
  · obtain ⟨v, h4, h5⟩ := h3 i y hy
    exact ⟨b, off, v, h1, h2, h4, h5⟩

def pOp (w : World) (x : Txn) (v : Value) : Prop := ∃ a c, v = .slice a x.n c ∧ IsOps w a x.n x.z
def pTx (w : World) (l : List Txn) (v : Value) : Prop := ∃ a c, v = .slice a l.length c ∧ Lies w (pOp w) a l
/-- All transactions, by thread and number. -/
def IsAll (w : World) (a : Option Addr) (A : List (List Txn)) : Prop := Lies w (pTx w) a A
theorem pOp.grown {w w' : World} {x : Txn} {v : Value} (h : pOp w x v) (g : w.grownBy w' none) : pOp w' x v := by
  obtain ⟨a, c, h1, h2⟩ := h
  exact ⟨a, c, h1, h2.grown g⟩
theorem pTx.grown {w w' : World} {l : List Txn} {v : Value} (h : pTx w l v) (g : w.grownBy w' none) : pTx w' l v := by
  obtain ⟨a, c, h1, h2⟩ := h
  exact ⟨a, c, h1, h2.keep (fun _ _ h => h.grown g) g⟩
theorem IsAll.grown {w w' : World} {a : Option Addr} {A : List (List Txn)} (h : IsAll w a A) (g : w.grownBy w' none) : IsAll w' a A := Lies.keep h (fun _ _ h => h.grown g) g

section
variable {H : Type} {enc : TypeId × Value → H} {P : Program} {w : World} {base : Nat} {held : Bool} {t e : TypeId} {fuel : Nat} {x : DataW H × List MemPlace}
/-- A slice of things of one cell each. -/
theorem slice1_of {α : Type} [Inhabited α] {p : α → Value → Prop} (ht : P.underlying t = some (.slice e)) (hc : P.cellsOf e = 1) (elem : ∀ (f : Nat) (cs : List Value) (x : DataW H × List MemPlace), DataW.trod enc P w base (fun _ => true) held f e cs = some x → ∃ (y : α) (v : Value), cs = [v] ∧ p y v) {cs : List Value}
    (h : DataW.trod enc P w base (fun _ => true) held fuel t cs = some x) : ∃ (a : Option Addr) (cap : Nat) (l : List α), cs = [.slice a l.length cap] ∧ l.length ≤ cap ∧ cap ≤ maxLen ∧ Lies w p a l := by
  rcases open_slice ht h with ⟨hcs, _⟩ | ⟨c, len, cap, k, f, D, Pl, hcs, _, hl, hm, hk, _, hel⟩
  · exact ⟨none, 0, [], hcs, Nat.le_refl _, Nat.zero_le _, .inl rfl⟩
  · simp only [if_true] at hk
    subst hk
    rw [hc] at hel
    obtain ⟨g, hg⟩ := choose_lt (α := α) (n := len) (p := fun i y => ∃ v, w.cell? (c.add i) = some v ∧ p y v) (fun i hi' => by
      obtain ⟨cs', h1, h2⟩ := hel i (by omega)
      obtain ⟨_, hlen, hcell⟩ := World.cells?_some h1
      obtain ⟨y, v, h3, h4⟩ := elem _ _ _ h2
      refine ⟨y, v, ?_, h4⟩
      have h5 := hcell 0 (by omega)
      rw [h3] at h5
      rw [add_add] at h5
      simpa using h5)
    refine ⟨some c, k, (List.range len).map g, by simpa using hcs, by simpa using hl, hm, ?_⟩
    by_cases h0 : len = 0
    · subst h0; exact .inl rfl
    · obtain ⟨v0, hv0, _⟩ := hg 0 (by omega)
      obtain ⟨b, off, hbo⟩ := plain_of hv0
      have hb := World.block_lt_of_cell? _ _ hv0
      have hc0 : c = ⟨b, off, none⟩ := by simpa [Addr.add] using hbo
      subst hc0
      refine .inr ⟨b, off, rfl, by simpa [Addr.add] using hb, fun i y hy => ?_⟩
      have hi : i < len := by have := (List.getElem?_eq_some_iff.1 hy).1; simpa using this
      have hy2 : y = g i := by simp [hi] at hy; exact hy.symm
      subst hy2
      obtain ⟨v, h1, h2⟩ := hg i hi
      exact ⟨v, by rw [← add_eq]; exact h1, h2⟩
end

section
variable {H : Type} {enc : TypeId × Value → H} {w : World} {base : Nat} {held : Bool} {fuel : Nat} {x : DataW H × List MemPlace}
theorem ops_of {cs : List Value} (h : DataW.trod enc Try.prog w base (fun _ => true) held fuel 70 cs = some x) : ∃ (y : Txn) (v : Value), cs = [v] ∧ pOp w y v := by
  rcases open_slice Try.underlying70 h with ⟨hcs, _⟩ | ⟨c, len, cap, k, f, D, Pl, hcs, _, hl, hm, hk, _, hel⟩
  · exact ⟨⟨0, fun _ _ => 0⟩, _, hcs, none, 0, rfl, .inl rfl⟩
  · simp only [if_true] at hk
    subst hk
    have k3 : Try.prog.cellsOf 102 = 3 := by kernel_rfl
    rw [k3] at hel
    obtain ⟨z, hz⟩ := choose_lt (α := Nat → Int) (n := len) (p := fun i y => ∀ j, j < 3 → w.cell? (c.add (i * 3 + j)) = some (.int .i64 (y j))) (fun i hi' => by
      obtain ⟨cs', h1, h2⟩ := hel i (by omega)
      obtain ⟨_, hlen, hcell⟩ := World.cells?_some h1
      obtain ⟨z, y, h3⟩ := plain_wf (n := 3) (isB := fun _ => false) Try.underlying102 (by
        intro j hj
        rcases (by omega : j = 0 ∨ j = 1 ∨ j = 2) with rfl | rfl | rfl
        · exact ⟨_, rfl, by kernel_rfl, by kernel_rfl⟩
        · exact ⟨_, rfl, by kernel_rfl, by kernel_rfl⟩
        · exact ⟨_, rfl, by kernel_rfl, by kernel_rfl⟩) h2
      refine ⟨z, fun j hj => ?_⟩
      rw [← add_add, hcell j (by omega)]
      exact (h3 j hj).1)
    refine ⟨⟨len, z⟩, _, hcs, some c, k, rfl, ?_⟩
    by_cases h0 : len = 0
    · exact .inl h0
    · obtain ⟨b, off, hbo⟩ := plain_of (hz 0 (by omega) 0 (by omega))
      have hb := World.block_lt_of_cell? _ _ (hz 0 (by omega) 0 (by omega))
      have hc0 : c = ⟨b, off, none⟩ := by simpa [Addr.add] using hbo
      subst hc0
      exact .inr ⟨b, off, rfl, by simpa [Addr.add] using hb, fun i j hi hj => by rw [← add_eq]; exact hz i hi j hj⟩
theorem txs_of {cs : List Value} (h : DataW.trod enc Try.prog w base (fun _ => true) held fuel 69 cs = some x) : ∃ (y : List Txn) (v : Value), cs = [v] ∧ pTx w y v := by
  obtain ⟨a, cap, l, h1, _, _, h2⟩ := slice1_of (α := Txn) (p := pOp w) Try.underlying69 (by kernel_rfl) (fun f cs x h => ops_of h) h
  exact ⟨l, _, h1, a, cap, rfl, h2⟩
theorem all_of {a : Option Addr} {len cap : Nat} (h : DataW.trod enc Try.prog w base (fun _ => true) held fuel 42 (Value.slice a len cap).cells.toList = some x) : ∃ A : List (List Txn), len = A.length ∧ IsAll w a A := by
  obtain ⟨a', cap', l, h1, _, _, h2⟩ := slice1_of (α := List Txn) (p := pTx w) Try.underlying42 (by kernel_rfl) (fun f cs x h => txs_of h) h
  simp [Value.cells] at h1
  obtain ⟨rfl, rfl, rfl⟩ := h1
  exact ⟨l, rfl, h2⟩
end
end Go.Proofs.Ytdohepenmejcaaa.md
