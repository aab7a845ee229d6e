/- Texts of one's own, one behind the other: HpP, Tn, TnA, TnB, TnC, TnD, TnE, TnF, WkG, Di, Da, Hb, OpD, OpE, OpF, Rs, Mq, Mr, Piece, Hz6, Hz11, Hz3, Hz20, Hz4, Hz2, Hz33, Hy, Hn, Md. -/
import Derived.Test.YtkidkhjpijjphaaProg
import Derived.Test.YtkidkhjpijjphaaPq3
import Derived.Deep.RegionHeld3
import Derived.Deep.QuietTactic
import Derived.Deep.RegionLaw
import Derived.WalkSmall
import Derived.BigQuiet
import Derived.Deep.CutRange
import Derived.Deep.DeepCutAuto
import Derived.BigRegion
/- A heap of turns, in plain numbers: what goes up, what goes down, what comes out. Of no program, and of no memory. -/
namespace Go.Proofs.Ytkidkhjpijjphaa.base
open Go
set_option linter.unusedVariables false
set_option linter.unusedSimpArgs false

/-- A try in the heap: its place, where it is seen, whether it committed. -/
structure It where
  no : Nat
  p : Int
  c : Bool
deriving Inhabited, DecidableEq

def It.rk (a : It) : Int := 2 * a.p + (if a.c = true then 1 else 0)
def It.le (a b : It) : Prop := a.rk < b.rk ∨ (a.rk = b.rk ∧ a.no ≤ b.no)
def It.less (a b : It) : Bool := decide (a.rk < b.rk) || (decide (a.rk = b.rk) && decide (a.no < b.no))
theorem It.le_of_less {a b : It} (h : a.less b = true) : a.le b := by
  unfold It.less at h
  simp at h
  unfold It.le
  omega
theorem It.le_of_not {a b : It} (h : a.less b = false) : b.le a := by
  unfold It.less at h
  simp at h
  unfold It.le
  omega
theorem It.le_trans {a b c : It} (h : a.le b) (g : b.le c) : a.le c := by
  unfold It.le at *
  omega
theorem It.le_refl (a : It) : a.le a := by
  unfold It.le
  omega

def itAt (L : List It) (k : Nat) : It := L.getD k ⟨0, 0, false⟩
theorem itAt_get {L : List It} {k : Nat} {a : It} (h : L[k]? = some a) : itAt L k = a := by simp [itAt, List.getD, h]
theorem get_itAt {L : List It} {k : Nat} (h : k < L.length) : L[k]? = some (itAt L k) := by simp [itAt, List.getD, h]
theorem itAt_mem {L : List It} {k : Nat} (h : k < L.length) : itAt L k ∈ L := List.mem_of_getElem? (get_itAt h)

/-- Two change places. -/
def swp (L : List It) (i j : Nat) : List It := (L.set i (itAt L j)).set j (itAt L i)
theorem swp_len (L : List It) (i j : Nat) : (swp L i j).length = L.length := by simp [swp]
theorem swp_at {L : List It} {i j : Nat} (hi : i < L.length) (hj : j < L.length) (k : Nat) : itAt (swp L i j) k = if k = j then itAt L i else if k = i then itAt L j else itAt L k := by
  have h : ∀ (l : List It) (a : Nat) (x : It) (k : Nat), a < l.length → itAt (l.set a x) k = if k = a then x else itAt l k := by
    intro l a x k ha
    unfold itAt
    rw [List.getD_eq_getElem?_getD, List.getD_eq_getElem?_getD]
    by_cases e : k = a
    · subst e
      rw [List.getElem?_set_self ha, if_pos rfl]
      rfl
    · rw [List.getElem?_set_ne (Ne.symm e), if_neg e]
  unfold swp
  rw [h _ _ _ _ (by simpa using hj), h _ _ _ _ hi]
theorem swp_perm {L : List It} {i j : Nat} (hi : i < L.length) (hj : j < L.length) : (swp L i j).Perm L := by
  have h := List.set_set_perm hi hj
  unfold swp
  rwa [itAt_get (List.getElem?_eq_getElem hi), itAt_get (List.getElem?_eq_getElem hj)]

/-- The first n are a heap. -/
def HeapN (L : List It) (n : Nat) : Prop := ∀ k, 0 < k → k < n → (itAt L ((k - 1) / 2)).le (itAt L k)
theorem heap_min {L : List It} {n : Nat} (h : HeapN L n) : ∀ k, k < n → (itAt L 0).le (itAt L k) := by
  intro k
  induction k using Nat.strongRecOn with
  | ind k ih =>
    intro hk
    by_cases h0 : k = 0
    · subst h0; exact It.le_refl _
    · exact It.le_trans (ih ((k - 1) / 2) (by omega) (by omega)) (h k (by omega) hk)
theorem HeapN.nil (L : List It) : HeapN L 0 := fun k _ h => by omega

/-- All but j are; and what lies below j isn't less than what lies above it. -/
def UpN (L : List It) (n j : Nat) : Prop :=
  (∀ k, 0 < k → k < n → k ≠ j → (itAt L ((k - 1) / 2)).le (itAt L k)) ∧ ∀ k, 0 < k → k < n → (k - 1) / 2 = j → 0 < j → (itAt L ((j - 1) / 2)).le (itAt L k)
theorem UpN.push {L : List It} (h : HeapN L L.length) (x : It) : UpN (L ++ [x]) (L.length + 1) L.length := by
  have e : ∀ k, k < L.length → itAt (L ++ [x]) k = itAt L k := fun k hk => by
    unfold itAt
    rw [List.getD_eq_getElem?_getD, List.getD_eq_getElem?_getD, List.getElem?_append_left hk]
  refine ⟨fun k h0 hk hne => ?_, fun k h0 hk he hj => by omega⟩
  rw [e k (by omega), e _ (by omega)]
  exact h k h0 (by omega)
theorem UpN.zero {L : List It} {n : Nat} (h : UpN L n 0) : HeapN L n := fun k h0 hk => h.1 k h0 hk (by omega)
theorem UpN.stop {L : List It} {n j : Nat} (h : UpN L n j) (hl : (itAt L j).less (itAt L ((j - 1) / 2)) = false) : HeapN L n := fun k h0 hk => by
  by_cases e : k = j
  · subst e; exact It.le_of_not hl
  · exact h.1 k h0 hk e
theorem UpN.step {L : List It} {n j : Nat} (h : UpN L n j) (hn : n = L.length) (h0 : 0 < j) (hj : j < n) (hl : (itAt L j).less (itAt L ((j - 1) / 2)) = true) : UpN (swp L ((j - 1) / 2) j) n ((j - 1) / 2) := by
  have hq : (j - 1) / 2 < j := by omega
  have hs := fun k => swp_at (L := L) (i := (j - 1) / 2) (j := j) (by omega) (by omega) k
  have hle := It.le_of_less hl
  refine ⟨fun k k0 kn hne => ?_, fun k k0 kn he hq0 => ?_⟩
  · rw [hs, hs]
    by_cases e1 : k = j
    · subst e1
      rw [if_pos rfl, if_neg (by omega), if_pos rfl]
      exact hle
    · rw [if_neg e1, if_neg hne]
      by_cases e2 : (k - 1) / 2 = j
      · rw [if_pos e2]
        exact h.2 k k0 kn e2 h0
      · rw [if_neg e2]
        by_cases e3 : (k - 1) / 2 = (j - 1) / 2
        · rw [if_pos e3]
          have := h.1 k k0 kn e1
          rw [e3] at this
          exact It.le_trans hle this
        · rw [if_neg e3]
          exact h.1 k k0 kn e1
  · rw [hs, hs]
    have hqq : ((j - 1) / 2 - 1) / 2 < (j - 1) / 2 := by omega
    rw [if_neg (by omega), if_neg (by omega)]
    have hup := h.1 ((j - 1) / 2) hq0 (by omega) (by omega)
    by_cases e1 : k = j
    · subst e1
      rw [if_pos rfl]
      exact hup
    · rw [if_neg e1, if_neg (by omega)]
      have := h.1 k k0 kn e1
      rw [he] at this
      exact It.le_trans hup this

/-- All but what lies below i are. -/
def DownN (L : List It) (n i : Nat) : Prop :=
  (∀ k, 0 < k → k < n → (k - 1) / 2 ≠ i → (itAt L ((k - 1) / 2)).le (itAt L k)) ∧ ∀ k, 0 < k → k < n → (k - 1) / 2 = i → 0 < i → (itAt L ((i - 1) / 2)).le (itAt L k)
theorem DownN.pop {L : List It} {n : Nat} (h : HeapN L (n + 1)) (hl : L.length = n + 1) : DownN (swp L 0 n) n 0 := by
  have hs := fun k => swp_at (L := L) (i := 0) (j := n) (by omega) (by omega) k
  refine ⟨fun k k0 kn hne => ?_, fun k k0 kn he h0 => by omega⟩
  rw [hs, hs, if_neg (by omega), if_neg (by omega), if_neg (by omega), if_neg (by omega)]
  exact h k k0 (by omega)
theorem DownN.leaf {L : List It} {n i : Nat} (h : DownN L n i) (hl : n ≤ 2 * i + 1) : HeapN L n := fun k k0 kn => h.1 k k0 kn (by omega)
/-- The lesser one of those that lie below i. -/
def Lesser (L : List It) (n i j : Nat) : Prop := (j = 2 * i + 1 ∨ j = 2 * i + 2) ∧ j < n ∧ ∀ k, 0 < k → k < n → (k - 1) / 2 = i → (itAt L j).le (itAt L k)
theorem Lesser.left {L : List It} {n i : Nat} (h1 : 2 * i + 1 < n) (h2 : n ≤ 2 * i + 2 ∨ (itAt L (2 * i + 2)).less (itAt L (2 * i + 1)) = false) : Lesser L n i (2 * i + 1) :=
  ⟨.inl rfl, h1, fun k k0 kn he => by
    by_cases e : k = 2 * i + 1
    · subst e; exact It.le_refl _
    · obtain rfl : k = 2 * i + 2 := by omega
      rcases h2 with h2 | h2
      · omega
      · exact It.le_of_not h2⟩
theorem Lesser.right {L : List It} {n i : Nat} (h1 : 2 * i + 2 < n) (h2 : (itAt L (2 * i + 2)).less (itAt L (2 * i + 1)) = true) : Lesser L n i (2 * i + 2) :=
  ⟨.inr rfl, h1, fun k k0 kn he => by
    by_cases e : k = 2 * i + 2
    · subst e; exact It.le_refl _
    · obtain rfl : k = 2 * i + 1 := by omega
      exact It.le_of_less h2⟩
theorem DownN.stop {L : List It} {n i j : Nat} (h : DownN L n i) (hj : Lesser L n i j) (hl : (itAt L j).less (itAt L i) = false) : HeapN L n := fun k k0 kn => by
  by_cases e : (k - 1) / 2 = i
  · rw [e]
    exact It.le_trans (It.le_of_not hl) (hj.2.2 k k0 kn e)
  · exact h.1 k k0 kn e
theorem DownN.step {L : List It} {n i j : Nat} (h : DownN L n i) (hn : n ≤ L.length) (hj : Lesser L n i j) (hl : (itAt L j).less (itAt L i) = true) : DownN (swp L i j) n j := by
  obtain ⟨h1, h2, h3⟩ := hj
  have hs := fun k => swp_at (L := L) (i := i) (j := j) (by omega) (by omega) k
  have hle := It.le_of_less hl
  have hpj : (j - 1) / 2 = i := by omega
  refine ⟨fun k k0 kn hne => ?_, fun k k0 kn he j0 => ?_⟩
  · rw [hs, hs, if_neg hne]
    by_cases e1 : k = j
    · subst e1
      rw [if_pos hpj, if_pos rfl]
      exact hle
    · rw [if_neg e1]
      by_cases e2 : (k - 1) / 2 = i
      · rw [if_pos e2, if_neg (by omega)]
        exact h3 k k0 kn e2
      · rw [if_neg e2]
        by_cases e3 : k = i
        · subst e3
          rw [if_pos rfl]
          exact h.2 j (by omega) h2 hpj k0
        · rw [if_neg e3]
          exact h.1 k k0 kn e2
  · rw [hs, hs, hpj, if_neg (show ¬ i = j by omega), if_pos rfl, if_neg (show ¬ k = j by omega), if_neg (show ¬ k = i by omega)]
    have := h.1 k k0 kn (by omega)
    rwa [he] at this
theorem swp_last {L : List It} {n i j : Nat} (hi : i < L.length) (hj : j < L.length) (h1 : i < n) (h2 : j < n) : itAt (swp L i j) n = itAt L n := by
  rw [swp_at hi hj, if_neg (by omega), if_neg (by omega)]

/-- The first one and the rest, of a heap out of which the least one was taken. -/
theorem heap_out {L L2 : List It} {n : Nat} (h : HeapN L (n + 1)) (hl : L.length = n + 1) (hp : L2.Perm (swp L 0 n)) (hlast : itAt L2 n = itAt (swp L 0 n) n) (hh : HeapN L2 n) :
    L2[n]? = some (itAt L 0) ∧ HeapN (L2.take n) (L2.take n).length ∧ (L2.take n).length = n ∧ (itAt L 0 :: L2.take n).Perm L ∧ ∀ y ∈ L2.take n, (itAt L 0).le y := by
  have hl2 : L2.length = n + 1 := by rw [hp.length_eq, swp_len, hl]
  have hx : itAt (swp L 0 n) n = itAt L 0 := by rw [swp_at (by omega) (by omega), if_pos rfl]
  have h1 : L2[n]? = some (itAt L 0) := by rw [get_itAt (by omega), hlast, hx]
  have h2 : (L2.take n).length = n := by simp; omega
  have h3 : L2 = L2.take n ++ [itAt L 0] := by
    have := List.take_append_drop n L2
    rw [← this]
    congr 1
    · simp
    · rw [List.drop_eq_getElem_cons (by omega), List.drop_eq_nil_of_le (by omega)]
      congr 1
      rw [List.getElem?_eq_getElem (by omega)] at h1
      injection h1
  have h4 : (itAt L 0 :: L2.take n).Perm L := by
    refine (List.perm_append_singleton (itAt L 0) (L2.take n)).symm.trans ?_
    rw [← h3]
    exact hp.trans (swp_perm (by omega) (by omega))
  have ht : ∀ k, k < n → itAt (L2.take n) k = itAt L2 k := fun k hk => by
    unfold itAt
    rw [List.getD_eq_getElem?_getD, List.getD_eq_getElem?_getD, List.getElem?_take_of_lt hk]
  refine ⟨h1, fun k k0 kn => ?_, h2, h4, fun y hy => ?_⟩
  · rw [h2] at kn
    rw [ht k kn, ht _ (by omega)]
    exact hh k k0 kn
  · have hy2 : y ∈ L := h4.mem_iff.1 (List.mem_cons_of_mem _ hy)
    obtain ⟨k, hk⟩ := List.getElem?_of_mem hy2
    have hk2 := (List.getElem?_eq_some_iff.1 hk).1
    have := heap_min h k (by omega)
    rwa [itAt_get hk] at this

/-- All tries that are seen, as they are pushed. -/
def itsOf (ts : List Tr) (f : Nat → Int) : List It := (List.range ts.length).map fun k => ⟨k, f k, (ts.getD k default).co⟩
/-- What says in which order they come. -/
def Ordered (ts : List Tr) (f : Nat → Int) (xs : List It) : Prop := xs.Perm (itsOf ts f) ∧ xs.Pairwise It.le
theorem Ordered.one {ts : List Tr} {f : Nat → Int} {xs ys : List It} (h : Ordered ts f xs) (g : Ordered ts f ys) : xs = ys := by
  refine List.Perm.eq_of_pairwise (le := It.le) ?_ h.2 g.2 (h.1.trans g.1.symm)
  intro a b ha hb h1 h2
  have ha' := h.1.mem_iff.1 ha
  have hb' := g.1.mem_iff.1 hb
  unfold itsOf at ha' hb'
  obtain ⟨i, _, rfl⟩ := List.mem_map.1 ha'
  obtain ⟨j, _, rfl⟩ := List.mem_map.1 hb'
  have : i = j := by
    unfold It.le at h1 h2
    dsimp only at h1 h2
    omega
  subst this
  rfl
/-- The first k of them. -/
def itsN (ts : List Tr) (f : Nat → Int) (k : Nat) : List It := (List.range k).map fun k => ⟨k, f k, (ts.getD k default).co⟩
theorem itsN_succ (ts : List Tr) (f : Nat → Int) {k : Nat} {t : Tr} (ht : ts[k]? = some t) : itsN ts f (k + 1) = itsN ts f k ++ [⟨k, f k, t.co⟩] := by
  unfold itsN
  rw [List.range_succ, List.map_append]
  congr 1
  simp [List.getD, ht]
theorem itsN_len (ts : List Tr) (f : Nat → Int) (k : Nat) : (itsN ts f k).length = k := by simp [itsN]
end Go.Proofs.Ytkidkhjpijjphaa.base

/- The heap's turns (package opaque): their ranks and places; where the heap lies; Len, Less. -/
namespace Go.Proofs.Ytkidkhjpijjphaa.oq
open Go Go.RowKit Go.Proofs.Ytkidkhjpijjphaa.base Go.Proofs.Ytkidkhjpijjphaa.hs Go.Maps
set_option linter.unusedVariables false
set_option maxRecDepth 100000
set_option linter.unusedSimpArgs false

/-- A turn, as a value. -/
def itV (a : It) : Value := if a.c = true then .iface 120 (.agg #[.int .i64 a.no, .int .i64 a.p]) else .iface 118 (.agg #[.int .i64 a.no, .int .i64 a.p])
theorem itV_one (a : It) : (itV a).oneCell' = true := by
  unfold itV
  split <;> rfl
theorem itV_iface (a : It) : ∃ T u, itV a = .iface T u := by
  unfold itV
  split <;> exact ⟨_, _, rfl⟩
/-- Its numbers are small. -/
def It.ok (a : It) : Prop := a.no ≤ 1000000 ∧ 0 ≤ a.p ∧ a.p ≤ 1000000

theorem place_any (no : Nat) (p : Int) (w : World) :
    Calls Try.prog 116 #[.agg #[.int .i64 no, .int .i64 p]] w fun r w' => r = .returned (.int .i64 no) ∧ Hid (w.grownBy w' none) := by
  go_enter Try.func116, Try.ntmps116
  go_wp2
  go_ret
  exact ⟨rfl, World.grownBy_alloc _ _ _⟩

theorem rank_plain (no : Nat) (p : Int) (w : World) (h : 0 ≤ p ∧ p ≤ 1000000) :
    Calls Try.prog 117 #[.agg #[.int .i64 no, .int .i64 p]] w fun r w' => r = .returned (.int .i64 (2 * p)) ∧ Hid (w.grownBy w' none) := by
  obtain ⟨h1, h2⟩ := h
  go_enter Try.func117, Try.ntmps117
  go_wp2
  go_ret
  exact ⟨by go_num, World.grownBy_alloc _ _ _⟩

theorem rank_done (no : Nat) (p : Int) (w : World) (h : 0 ≤ p ∧ p ≤ 1000000) :
    Calls Try.prog 118 #[.agg #[.int .i64 no, .int .i64 p]] w fun r w' => r = .returned (.int .i64 (2 * p + 1)) ∧ Hid (w.grownBy w' none) := by
  obtain ⟨h1, h2⟩ := h
  go_enter Try.func118, Try.ntmps118
  go_wp2_with (first | (go_at_call 117; refine (rank_plain no p _ ⟨h1, h2⟩).mono ?_; rintro r u ⟨rfl, g⟩) | go_in)
  go_ret
  exact ⟨by go_num, gb_trans (World.grownBy_alloc _ _ _) g.out⟩

theorem turnOf_any (t : Tr) (v : Value) (no : Nat) (p : Int) (w : World) :
    Calls Try.prog 46 #[.agg ⟨trC t v⟩, .int .i64 no, .int .i64 p] w fun r w' => r = .returned (itV ⟨no, p, t.co⟩) ∧ Hid (w.grownBy w' none) := by
  obtain ⟨xth, xtx, xat, xst, xb, xen, xre, xco, ac⟩ := t
  show Calls Try.prog 46 #[.agg #[.int .i64 xth, .int .i64 xtx, .int .i64 xat, .int .i64 xst, .int .i64 xb, .int .i64 xen, .int .i64 xre, .bool xco, v], .int .i64 no, .int .i64 p] w fun r w' => r = .returned (itV ⟨no, p, xco⟩) ∧ _
  cases xco with
  | true =>
    go_enter Try.func46, Try.ntmps46
    go_wp2
    go_ret
    exact ⟨rfl, World.grownBy_alloc _ _ _⟩
  | false =>
    go_enter Try.func46, Try.ntmps46
    go_wp2
    go_ret
    exact ⟨rfl, World.grownBy_alloc _ _ _⟩
end Go.Proofs.Ytkidkhjpijjphaa.oq

/- The heap's turns (package opaque): Len, Less. -/
namespace Go.Proofs.Ytkidkhjpijjphaa.oq
open Go Go.RowKit Go.Proofs.Ytkidkhjpijjphaa.base Go.Proofs.Ytkidkhjpijjphaa.hs Go.Maps
set_option linter.unusedVariables false
set_option maxRecDepth 100000
set_option linter.unusedSimpArgs false

theorem len_any (a : Option Addr) (n c : Nat) (w : World) : Calls Try.prog 47 #[.slice a n c] w fun r w' => r = .returned (.int .i64 n) ∧ w' = w := by
  go_enter Try.func47, Try.ntmps47
  go_wp2
  go_ret
  exact ⟨rfl, rfl⟩

set_option maxHeartbeats 4000000 in
theorem less_pp (g n c i j no no' : Nat) (p p' : Int) (w : World) (hi : i < n) (hj : j < n) (h0 : 0 ≤ p ∧ p ≤ 1000000) (h1 : 0 ≤ p' ∧ p' ≤ 1000000) (ci : w.cell? ⟨g, i, none⟩ = some (.iface 118 (.agg #[.int .i64 no, .int .i64 p]))) (cj : w.cell? ⟨g, j, none⟩ = some (.iface 118 (.agg #[.int .i64 no', .int .i64 p']))) :
    Calls Try.prog 112 #[.slice (some ⟨g, 0, none⟩) n c, .int .i64 i, .int .i64 j] w fun r w' => r = .returned (.bool (decide (2 * p < 2 * p') || (decide (2 * p = 2 * p') && decide (no < no')))) ∧ Hid (w.grownBy w' none) := by
  have gl := World.block_lt_of_cell? _ _ ci
  have hi' : (i : Int) < (n : Int) := by omega
  have hj' : (j : Int) < (n : Int) := by omega
  by_cases he : (2 * p : Int) = 2 * p'
  · have f0 : ((2 * p : Int) == 2 * p') = true := by simp [he]
    have hk : ¬ (2 * p : Int) < 2 * p' := by omega
    have HA : Hid ((decide ((2 * p : Int) < 2 * p') || (decide ((2 * p : Int) = 2 * p') && decide (no < no'))) = decide ((no : Int) < (no' : Int))) := Lib.hid (by simp [he])
    rw [HA.out]
    clear he HA
    go_enter Try.func112, Try.ntmps112
    go_wp2_with fail
    have K0 : Hid (w.grownBy w.drew none) := Lib.hid (gb_drew (gb_refl w none))
    go_region_held3 (fun w' => Hid (w.grownBy w' none) ∧ w'.cell? ⟨g, i, none⟩ = some (.iface 118 (.agg #[.int .i64 no, .int .i64 p])) ∧ w'.cell? ⟨g, j, none⟩ = some (.iface 118 (.agg #[.int .i64 no', .int .i64 p']))) (go_keep) (first | (go_at_call 117; refine (rank_plain _ _ _ (by first | exact h0 | exact h1)).mono ?_; rintro r u5 ⟨rfl, g5⟩; have K5 : Hid (w.grownBy u5 none) := Lib.hid (gb_trans (by refine Hid.out ?_; assumption) g5.out); have x5 := K5.out.cell ci (by simp); have y5 := K5.out.cell cj (by simp)) | (go_at_call 118; refine (rank_done _ _ _ (by first | exact h0 | exact h1)).mono ?_; rintro r u5 ⟨rfl, g5⟩; have K5 : Hid (w.grownBy u5 none) := Lib.hid (gb_trans (by refine Hid.out ?_; assumption) g5.out); have x5 := K5.out.cell ci (by simp); have y5 := K5.out.cell cj (by simp)) | (go_at_call 116; refine (place_any _ _ _).mono ?_; rintro r u5 ⟨rfl, g5⟩; have K5 : Hid (w.grownBy u5 none) := Lib.hid (gb_trans (by refine Hid.out ?_; assumption) g5.out); have x5 := K5.out.cell ci (by simp); have y5 := K5.out.cell cj (by simp)))
    go_wp2_with fail
    have K7 : Hid (w.grownBy u5.drew none) := Lib.hid (gb_drew K5.out)
    go_region_held3 (fun w' => Hid (w.grownBy w' none) ∧ w'.cell? ⟨g, i, none⟩ = some (.iface 118 (.agg #[.int .i64 no, .int .i64 p])) ∧ w'.cell? ⟨g, j, none⟩ = some (.iface 118 (.agg #[.int .i64 no', .int .i64 p']))) (go_keep) (first | (go_at_call 117; refine (rank_plain _ _ _ (by first | exact h0 | exact h1)).mono ?_; rintro r u5 ⟨rfl, g5⟩; have K5 : Hid (w.grownBy u5 none) := Lib.hid (gb_trans (by refine Hid.out ?_; assumption) g5.out); have x5 := K5.out.cell ci (by simp); have y5 := K5.out.cell cj (by simp)) | (go_at_call 118; refine (rank_done _ _ _ (by first | exact h0 | exact h1)).mono ?_; rintro r u5 ⟨rfl, g5⟩; have K5 : Hid (w.grownBy u5 none) := Lib.hid (gb_trans (by refine Hid.out ?_; assumption) g5.out); have x5 := K5.out.cell ci (by simp); have y5 := K5.out.cell cj (by simp)) | (go_at_call 116; refine (place_any _ _ _).mono ?_; rintro r u5 ⟨rfl, g5⟩; have K5 : Hid (w.grownBy u5 none) := Lib.hid (gb_trans (by refine Hid.out ?_; assumption) g5.out); have x5 := K5.out.cell ci (by simp); have y5 := K5.out.cell cj (by simp)))
    all_goals
      go_wp2
      go_ret
      exact ⟨congrArg (fun b => Ending.returned (Value.bool b)) (decide_eq_decide.2 (by omega)), (by first | exact K5 | assumption)⟩
  · have f0 : ((2 * p : Int) == 2 * p') = false := by simp [he]
    have HA : Hid ((decide ((2 * p : Int) < 2 * p') || (decide ((2 * p : Int) = 2 * p') && decide (no < no'))) = decide ((2 * p : Int) < 2 * p')) := Lib.hid (by simp [he])
    rw [HA.out]
    clear HA
    go_enter Try.func112, Try.ntmps112
    go_wp2_with fail
    have K0 : Hid (w.grownBy w.drew none) := Lib.hid (gb_drew (gb_refl w none))
    go_region_held3 (fun w' => Hid (w.grownBy w' none) ∧ w'.cell? ⟨g, i, none⟩ = some (.iface 118 (.agg #[.int .i64 no, .int .i64 p])) ∧ w'.cell? ⟨g, j, none⟩ = some (.iface 118 (.agg #[.int .i64 no', .int .i64 p']))) (go_keep) (first | (go_at_call 117; refine (rank_plain _ _ _ (by first | exact h0 | exact h1)).mono ?_; rintro r u5 ⟨rfl, g5⟩; have K5 : Hid (w.grownBy u5 none) := Lib.hid (gb_trans (by refine Hid.out ?_; assumption) g5.out); have x5 := K5.out.cell ci (by simp); have y5 := K5.out.cell cj (by simp)) | (go_at_call 118; refine (rank_done _ _ _ (by first | exact h0 | exact h1)).mono ?_; rintro r u5 ⟨rfl, g5⟩; have K5 : Hid (w.grownBy u5 none) := Lib.hid (gb_trans (by refine Hid.out ?_; assumption) g5.out); have x5 := K5.out.cell ci (by simp); have y5 := K5.out.cell cj (by simp)) | (go_at_call 116; refine (place_any _ _ _).mono ?_; rintro r u5 ⟨rfl, g5⟩; have K5 : Hid (w.grownBy u5 none) := Lib.hid (gb_trans (by refine Hid.out ?_; assumption) g5.out); have x5 := K5.out.cell ci (by simp); have y5 := K5.out.cell cj (by simp)))
    go_wp2
    go_ret
    exact ⟨congrArg (fun b => Ending.returned (Value.bool b)) (decide_eq_decide.2 (by omega)), K5⟩

set_option maxHeartbeats 4000000 in
theorem less_pd (g n c i j no no' : Nat) (p p' : Int) (w : World) (hi : i < n) (hj : j < n) (h0 : 0 ≤ p ∧ p ≤ 1000000) (h1 : 0 ≤ p' ∧ p' ≤ 1000000) (ci : w.cell? ⟨g, i, none⟩ = some (.iface 118 (.agg #[.int .i64 no, .int .i64 p]))) (cj : w.cell? ⟨g, j, none⟩ = some (.iface 120 (.agg #[.int .i64 no', .int .i64 p']))) :
    Calls Try.prog 112 #[.slice (some ⟨g, 0, none⟩) n c, .int .i64 i, .int .i64 j] w fun r w' => r = .returned (.bool (decide (2 * p < 2 * p' + 1) || (decide (2 * p = 2 * p' + 1) && decide (no < no')))) ∧ Hid (w.grownBy w' none) := by
  have gl := World.block_lt_of_cell? _ _ ci
  have hi' : (i : Int) < (n : Int) := by omega
  have hj' : (j : Int) < (n : Int) := by omega
  by_cases he : (2 * p : Int) = 2 * p' + 1
  · exact absurd he (by omega)
  · have f0 : ((2 * p : Int) == 2 * p' + 1) = false := by simp [he]
    have HA : Hid ((decide ((2 * p : Int) < 2 * p' + 1) || (decide ((2 * p : Int) = 2 * p' + 1) && decide (no < no'))) = decide ((2 * p : Int) < 2 * p' + 1)) := Lib.hid (by simp [he])
    rw [HA.out]
    clear HA
    go_enter Try.func112, Try.ntmps112
    go_wp2_with fail
    have K0 : Hid (w.grownBy w.drew none) := Lib.hid (gb_drew (gb_refl w none))
    go_region_held3 (fun w' => Hid (w.grownBy w' none) ∧ w'.cell? ⟨g, i, none⟩ = some (.iface 118 (.agg #[.int .i64 no, .int .i64 p])) ∧ w'.cell? ⟨g, j, none⟩ = some (.iface 120 (.agg #[.int .i64 no', .int .i64 p']))) (go_keep) (first | (go_at_call 117; refine (rank_plain _ _ _ (by first | exact h0 | exact h1)).mono ?_; rintro r u5 ⟨rfl, g5⟩; have K5 : Hid (w.grownBy u5 none) := Lib.hid (gb_trans (by refine Hid.out ?_; assumption) g5.out); have x5 := K5.out.cell ci (by simp); have y5 := K5.out.cell cj (by simp)) | (go_at_call 118; refine (rank_done _ _ _ (by first | exact h0 | exact h1)).mono ?_; rintro r u5 ⟨rfl, g5⟩; have K5 : Hid (w.grownBy u5 none) := Lib.hid (gb_trans (by refine Hid.out ?_; assumption) g5.out); have x5 := K5.out.cell ci (by simp); have y5 := K5.out.cell cj (by simp)) | (go_at_call 116; refine (place_any _ _ _).mono ?_; rintro r u5 ⟨rfl, g5⟩; have K5 : Hid (w.grownBy u5 none) := Lib.hid (gb_trans (by refine Hid.out ?_; assumption) g5.out); have x5 := K5.out.cell ci (by simp); have y5 := K5.out.cell cj (by simp)))
    go_wp2
    go_ret
    exact ⟨congrArg (fun b => Ending.returned (Value.bool b)) (decide_eq_decide.2 (by omega)), K5⟩

set_option maxHeartbeats 4000000 in
theorem less_dp (g n c i j no no' : Nat) (p p' : Int) (w : World) (hi : i < n) (hj : j < n) (h0 : 0 ≤ p ∧ p ≤ 1000000) (h1 : 0 ≤ p' ∧ p' ≤ 1000000) (ci : w.cell? ⟨g, i, none⟩ = some (.iface 120 (.agg #[.int .i64 no, .int .i64 p]))) (cj : w.cell? ⟨g, j, none⟩ = some (.iface 118 (.agg #[.int .i64 no', .int .i64 p']))) :
    Calls Try.prog 112 #[.slice (some ⟨g, 0, none⟩) n c, .int .i64 i, .int .i64 j] w fun r w' => r = .returned (.bool (decide (2 * p + 1 < 2 * p') || (decide (2 * p + 1 = 2 * p') && decide (no < no')))) ∧ Hid (w.grownBy w' none) := by
  have gl := World.block_lt_of_cell? _ _ ci
  have hi' : (i : Int) < (n : Int) := by omega
  have hj' : (j : Int) < (n : Int) := by omega
  by_cases he : (2 * p + 1 : Int) = 2 * p'
  · exact absurd he (by omega)
  · have f0 : ((2 * p + 1 : Int) == 2 * p') = false := by simp [he]
    have HA : Hid ((decide ((2 * p + 1 : Int) < 2 * p') || (decide ((2 * p + 1 : Int) = 2 * p') && decide (no < no'))) = decide ((2 * p + 1 : Int) < 2 * p')) := Lib.hid (by simp [he])
    rw [HA.out]
    clear HA
    go_enter Try.func112, Try.ntmps112
    go_wp2_with fail
    have K0 : Hid (w.grownBy w.drew none) := Lib.hid (gb_drew (gb_refl w none))
    go_region_held3 (fun w' => Hid (w.grownBy w' none) ∧ w'.cell? ⟨g, i, none⟩ = some (.iface 120 (.agg #[.int .i64 no, .int .i64 p])) ∧ w'.cell? ⟨g, j, none⟩ = some (.iface 118 (.agg #[.int .i64 no', .int .i64 p']))) (go_keep) (first | (go_at_call 117; refine (rank_plain _ _ _ (by first | exact h0 | exact h1)).mono ?_; rintro r u5 ⟨rfl, g5⟩; have K5 : Hid (w.grownBy u5 none) := Lib.hid (gb_trans (by refine Hid.out ?_; assumption) g5.out); have x5 := K5.out.cell ci (by simp); have y5 := K5.out.cell cj (by simp)) | (go_at_call 118; refine (rank_done _ _ _ (by first | exact h0 | exact h1)).mono ?_; rintro r u5 ⟨rfl, g5⟩; have K5 : Hid (w.grownBy u5 none) := Lib.hid (gb_trans (by refine Hid.out ?_; assumption) g5.out); have x5 := K5.out.cell ci (by simp); have y5 := K5.out.cell cj (by simp)) | (go_at_call 116; refine (place_any _ _ _).mono ?_; rintro r u5 ⟨rfl, g5⟩; have K5 : Hid (w.grownBy u5 none) := Lib.hid (gb_trans (by refine Hid.out ?_; assumption) g5.out); have x5 := K5.out.cell ci (by simp); have y5 := K5.out.cell cj (by simp)))
    go_wp2
    go_ret
    exact ⟨congrArg (fun b => Ending.returned (Value.bool b)) (decide_eq_decide.2 (by omega)), K5⟩

set_option maxHeartbeats 4000000 in
theorem less_dd (g n c i j no no' : Nat) (p p' : Int) (w : World) (hi : i < n) (hj : j < n) (h0 : 0 ≤ p ∧ p ≤ 1000000) (h1 : 0 ≤ p' ∧ p' ≤ 1000000) (ci : w.cell? ⟨g, i, none⟩ = some (.iface 120 (.agg #[.int .i64 no, .int .i64 p]))) (cj : w.cell? ⟨g, j, none⟩ = some (.iface 120 (.agg #[.int .i64 no', .int .i64 p']))) :
    Calls Try.prog 112 #[.slice (some ⟨g, 0, none⟩) n c, .int .i64 i, .int .i64 j] w fun r w' => r = .returned (.bool (decide (2 * p + 1 < 2 * p' + 1) || (decide (2 * p + 1 = 2 * p' + 1) && decide (no < no')))) ∧ Hid (w.grownBy w' none) := by
  have gl := World.block_lt_of_cell? _ _ ci
  have hi' : (i : Int) < (n : Int) := by omega
  have hj' : (j : Int) < (n : Int) := by omega
  by_cases he : (2 * p + 1 : Int) = 2 * p' + 1
  · have f0 : ((2 * p + 1 : Int) == 2 * p' + 1) = true := by simp [he]
    have hk : ¬ (2 * p + 1 : Int) < 2 * p' + 1 := by omega
    have HA : Hid ((decide ((2 * p + 1 : Int) < 2 * p' + 1) || (decide ((2 * p + 1 : Int) = 2 * p' + 1) && decide (no < no'))) = decide ((no : Int) < (no' : Int))) := Lib.hid (by simp [he])
    rw [HA.out]
    clear he HA
    go_enter Try.func112, Try.ntmps112
    go_wp2_with fail
    have K0 : Hid (w.grownBy w.drew none) := Lib.hid (gb_drew (gb_refl w none))
    go_region_held3 (fun w' => Hid (w.grownBy w' none) ∧ w'.cell? ⟨g, i, none⟩ = some (.iface 120 (.agg #[.int .i64 no, .int .i64 p])) ∧ w'.cell? ⟨g, j, none⟩ = some (.iface 120 (.agg #[.int .i64 no', .int .i64 p']))) (go_keep) (first | (go_at_call 117; refine (rank_plain _ _ _ (by first | exact h0 | exact h1)).mono ?_; rintro r u5 ⟨rfl, g5⟩; have K5 : Hid (w.grownBy u5 none) := Lib.hid (gb_trans (by refine Hid.out ?_; assumption) g5.out); have x5 := K5.out.cell ci (by simp); have y5 := K5.out.cell cj (by simp)) | (go_at_call 118; refine (rank_done _ _ _ (by first | exact h0 | exact h1)).mono ?_; rintro r u5 ⟨rfl, g5⟩; have K5 : Hid (w.grownBy u5 none) := Lib.hid (gb_trans (by refine Hid.out ?_; assumption) g5.out); have x5 := K5.out.cell ci (by simp); have y5 := K5.out.cell cj (by simp)) | (go_at_call 116; refine (place_any _ _ _).mono ?_; rintro r u5 ⟨rfl, g5⟩; have K5 : Hid (w.grownBy u5 none) := Lib.hid (gb_trans (by refine Hid.out ?_; assumption) g5.out); have x5 := K5.out.cell ci (by simp); have y5 := K5.out.cell cj (by simp)))
    go_wp2_with fail
    have K7 : Hid (w.grownBy u5.drew none) := Lib.hid (gb_drew K5.out)
    go_region_held3 (fun w' => Hid (w.grownBy w' none) ∧ w'.cell? ⟨g, i, none⟩ = some (.iface 120 (.agg #[.int .i64 no, .int .i64 p])) ∧ w'.cell? ⟨g, j, none⟩ = some (.iface 120 (.agg #[.int .i64 no', .int .i64 p']))) (go_keep) (first | (go_at_call 117; refine (rank_plain _ _ _ (by first | exact h0 | exact h1)).mono ?_; rintro r u5 ⟨rfl, g5⟩; have K5 : Hid (w.grownBy u5 none) := Lib.hid (gb_trans (by refine Hid.out ?_; assumption) g5.out); have x5 := K5.out.cell ci (by simp); have y5 := K5.out.cell cj (by simp)) | (go_at_call 118; refine (rank_done _ _ _ (by first | exact h0 | exact h1)).mono ?_; rintro r u5 ⟨rfl, g5⟩; have K5 : Hid (w.grownBy u5 none) := Lib.hid (gb_trans (by refine Hid.out ?_; assumption) g5.out); have x5 := K5.out.cell ci (by simp); have y5 := K5.out.cell cj (by simp)) | (go_at_call 116; refine (place_any _ _ _).mono ?_; rintro r u5 ⟨rfl, g5⟩; have K5 : Hid (w.grownBy u5 none) := Lib.hid (gb_trans (by refine Hid.out ?_; assumption) g5.out); have x5 := K5.out.cell ci (by simp); have y5 := K5.out.cell cj (by simp)))
    all_goals
      go_wp2
      go_ret
      exact ⟨congrArg (fun b => Ending.returned (Value.bool b)) (decide_eq_decide.2 (by omega)), (by first | exact K5 | assumption)⟩
  · have f0 : ((2 * p + 1 : Int) == 2 * p' + 1) = false := by simp [he]
    have HA : Hid ((decide ((2 * p + 1 : Int) < 2 * p' + 1) || (decide ((2 * p + 1 : Int) = 2 * p' + 1) && decide (no < no'))) = decide ((2 * p + 1 : Int) < 2 * p' + 1)) := Lib.hid (by simp [he])
    rw [HA.out]
    clear HA
    go_enter Try.func112, Try.ntmps112
    go_wp2_with fail
    have K0 : Hid (w.grownBy w.drew none) := Lib.hid (gb_drew (gb_refl w none))
    go_region_held3 (fun w' => Hid (w.grownBy w' none) ∧ w'.cell? ⟨g, i, none⟩ = some (.iface 120 (.agg #[.int .i64 no, .int .i64 p])) ∧ w'.cell? ⟨g, j, none⟩ = some (.iface 120 (.agg #[.int .i64 no', .int .i64 p']))) (go_keep) (first | (go_at_call 117; refine (rank_plain _ _ _ (by first | exact h0 | exact h1)).mono ?_; rintro r u5 ⟨rfl, g5⟩; have K5 : Hid (w.grownBy u5 none) := Lib.hid (gb_trans (by refine Hid.out ?_; assumption) g5.out); have x5 := K5.out.cell ci (by simp); have y5 := K5.out.cell cj (by simp)) | (go_at_call 118; refine (rank_done _ _ _ (by first | exact h0 | exact h1)).mono ?_; rintro r u5 ⟨rfl, g5⟩; have K5 : Hid (w.grownBy u5 none) := Lib.hid (gb_trans (by refine Hid.out ?_; assumption) g5.out); have x5 := K5.out.cell ci (by simp); have y5 := K5.out.cell cj (by simp)) | (go_at_call 116; refine (place_any _ _ _).mono ?_; rintro r u5 ⟨rfl, g5⟩; have K5 : Hid (w.grownBy u5 none) := Lib.hid (gb_trans (by refine Hid.out ?_; assumption) g5.out); have x5 := K5.out.cell ci (by simp); have y5 := K5.out.cell cj (by simp)))
    go_wp2
    go_ret
    exact ⟨congrArg (fun b => Ending.returned (Value.bool b)) (decide_eq_decide.2 (by omega)), K5⟩

/-- Who goes first. -/
theorem less_any (g n c i j : Nat) (x y : It) (w : World) (hi : i < n) (hj : j < n) (hx : It.ok x) (hy : It.ok y) (ci : w.cell? ⟨g, i, none⟩ = some (itV x)) (cj : w.cell? ⟨g, j, none⟩ = some (itV y)) :
    Calls Try.prog 112 #[.slice (some ⟨g, 0, none⟩) n c, .int .i64 i, .int .i64 j] w fun r w' => r = .returned (.bool (x.less y)) ∧ Hid (w.grownBy w' none) := by
  obtain ⟨no, p, k⟩ := x
  obtain ⟨no', p', k'⟩ := y
  have hx2 : 0 ≤ p ∧ p ≤ 1000000 := hx.2
  have hy2 : 0 ≤ p' ∧ p' ≤ 1000000 := hy.2
  cases k <;> cases k' <;> simp only [itV, Bool.false_eq_true, if_true, if_false] at ci cj <;> simp only [It.less, It.rk, Bool.false_eq_true, if_true, if_false, Int.add_zero]
  · exact less_pp g n c i j no no' p p' w hi hj hx2 hy2 ci cj
  · exact less_pd g n c i j no no' p p' w hi hj hx2 hy2 ci cj
  · exact less_dp g n c i j no no' p p' w hi hj hx2 hy2 ci cj
  · exact less_dd g n c i j no no' p p' w hi hj hx2 hy2 ci cj
end Go.Proofs.Ytkidkhjpijjphaa.oq

/- The heap's turns (package opaque): where the heap lies; Swap, Push, Pop. -/
namespace Go.Proofs.Ytkidkhjpijjphaa.oq
open Go Go.RowKit Go.Proofs.Ytkidkhjpijjphaa.base Go.Proofs.Ytkidkhjpijjphaa.hs Go.Proofs.Ytkidkhjpijjphaa.lg Go.Maps
set_option linter.unusedVariables false
set_option maxRecDepth 100000
set_option linter.unusedSimpArgs false

/-- Block hb is the heap; its list is v, whose turns are those of L. -/
structure HpM (w : World) (B hb : Nat) (v : Value) (L : List It) : Prop where
  blk : Blk 89 w hb #[v]
  row : w.ownsRow B 92 1 v L.length (L.map itV)
  ne : v.ownBlock ≠ some hb
  lo : B ≤ hb
  ok : ∀ x ∈ L, It.ok x
/-- What the heap alone may write. -/
def HpS (hb : Nat) (v : Value) : Nat → Prop := fun k => k = hb ∨ v.ownBlock = some k

section
variable {w w' : World} {B hb : Nat} {v : Value} {L : List It}
theorem HpM.keep (h : HpM w B hb v L) (hk : ∀ k, HpS hb v k → w'.heap[k]? = w.heap[k]?) : HpM w' B hb v L :=
  ⟨h.blk.keep (hk _ (.inl rfl)), ownsRow_keep h.row (fun k e => hk k (.inr e)), h.ne, h.lo, h.ok⟩
theorem HpM.lts (h : HpM w B hb v L) : ∀ k, HpS hb v k → k < w.heap.size := by
  rintro k (rfl | e)
  · exact h.blk.lt
  · exact (h.row.lt k e).2
theorem HpM.grown (h : HpM w B hb v L) (g : w.grownBy w' none) : HpM w' B hb v L := h.keep fun k hk => g.block k (h.lts k hk) (by simp)
theorem HpM.drew (h : HpM w B hb v L) : HpM w.drew B hb v L := h.keep fun _ _ => rfl
theorem HpM.cell (h : HpM w B hb v L) {i : Nat} {x : It} (hx : L[i]? = some x) : ∃ g c, v = .slice (some ⟨g, 0, none⟩) L.length c ∧ g < w.heap.size ∧ w.cell? ⟨g, i, none⟩ = some (itV x) ∧ w.frozen? ⟨g, i, none⟩ = false := by
  have hi := (List.getElem?_eq_some_iff.1 hx).1
  rcases h.row.2 with ⟨_, h1⟩ | ⟨g, cap, cur, rfl, _, hg, _⟩
  · simp at h1
    rw [h1] at hi
    simp at hi
  · refine ⟨g, cap, rfl, lt_of_block hg, ?_, by simp [World.frozen?, hg]⟩
    have := h.row.cellAt i (by simpa using hi)
    rw [List.getElem?_map, hx] at this
    exact this
/-- A turn is put into its cell. -/
theorem HpM.set (h : HpM w B hb v L) {i : Nat} {x : It} (hi : i < L.length) (hx : It.ok x) {g : Nat} (hg : v.ownBlock = some g) : HpM (w.setCell ⟨g, i, none⟩ (itV x)) B hb v (L.set i x) := by
  have hne : g ≠ hb := fun e => h.ne (e ▸ hg)
  refine ⟨h.blk.keep (Below.heap_setCell _ _ _ _ (Ne.symm hne)), ?_, h.ne, h.lo, fun y hy => ?_⟩
  · have := ownsRow_set h.row hg hi (itV x)
    rw [List.length_set, List.map_set]
    exact this
  · rcases List.mem_or_eq_of_mem_set hy with h1 | rfl
    · exact h.ok y h1
    · exact hx
end

set_option maxHeartbeats 4000000 in
theorem swap_any (B hb g n c i j : Nat) (L : List It) (w : World) (h : HpM w B hb (.slice (some ⟨g, 0, none⟩) n c) L) (hn : n = L.length) (hi : i < L.length) (hj : j < L.length) :
    Calls Try.prog 115 #[.slice (some ⟨g, 0, none⟩) n c, .int .i64 i, .int .i64 j] w fun r w' => r = .returned (.tuple #[]) ∧ Hid (HpM w' B hb (.slice (some ⟨g, 0, none⟩) n c) (swp L i j)) ∧ Hid (w.grownBy w' (some g)) := by
  obtain ⟨gi, ci0, e1, gl, ci, fi⟩ := h.cell (get_itAt hi)
  obtain ⟨gj, cj0, e2, _, cj, fj⟩ := h.cell (get_itAt hj)
  cases e1
  cases e2
  have H := Lib.hid h
  have hi' : (i : Int) < (L.length : Int) := by omega
  have hj' : (j : Int) < (L.length : Int) := by omega
  clear h
  obtain ⟨Ti, ui, ei⟩ := itV_iface (itAt L i)
  obtain ⟨Tj, uj, ej⟩ := itV_iface (itAt L j)
  rw [ei] at ci
  rw [ej] at cj
  have EI := Lib.hid ei
  have EJ := Lib.hid ej
  clear ei ej
  by_cases hij : i = j
  · subst hij
    have e3 := EI.out.symm.trans EJ.out
    injection e3 with e3 e4
    subst e3 e4
    have HF : Hid (HpM ((w.setCell ⟨g, i, none⟩ (.iface Ti ui)).setCell ⟨g, i, none⟩ (.iface Ti ui)) B hb (.slice (some ⟨g, 0, none⟩) L.length c) (swp L i i)) := Lib.hid (by
      have h1 := H.out.set (x := itAt L i) hi (H.out.ok _ (itAt_mem hi)) rfl
      have h2 := h1.set (i := i) (x := itAt L i) (by simpa using hi) (H.out.ok _ (itAt_mem hi)) rfl
      rw [EI.out] at h2
      exact h2)
    have c2 : (w.setCell ⟨g, i, none⟩ (.iface Ti ui)).cell? ⟨g, i, none⟩ = some (.iface Ti ui) := World.cell?_setCell_same _ _ _ ci
    go_enter Try.func115, Try.ntmps115
    go_wp2_with fail
    go_region
    go_wp2
    (first | go_end0 | refine bodyPost_ret (results_none rfl _ _ _) rfl ?_)
    exact ⟨rfl, HF.out.drew, gb_drew (gb_setB (gb_setB (gb_refl w (some g)) _) _)⟩
  · have HF : Hid (HpM ((w.setCell ⟨g, i, none⟩ (.iface Tj uj)).setCell ⟨g, j, none⟩ (.iface Ti ui)) B hb (.slice (some ⟨g, 0, none⟩) L.length c) (swp L i j)) := Lib.hid (by
      have h1 := H.out.set (x := itAt L j) hi (H.out.ok _ (itAt_mem hj)) rfl
      have h2 := h1.set (i := j) (x := itAt L i) (by simpa using hj) (H.out.ok _ (itAt_mem hi)) rfl
      rw [EI.out, EJ.out] at h2
      exact h2)
    have hne : (⟨g, i, none⟩ : Addr) ≠ ⟨g, j, none⟩ := fun e => hij (by injection e)
    have c2 : (w.setCell ⟨g, i, none⟩ (.iface Tj uj)).cell? ⟨g, j, none⟩ = some (.iface Tj uj) := (World.cell?_setCell_other _ _ _ _ hne).trans cj
    have c3 : (w.setCell ⟨g, j, none⟩ (.iface Ti ui)).cell? ⟨g, i, none⟩ = some (.iface Ti ui) := (World.cell?_setCell_other _ _ _ _ hne.symm).trans ci
    go_enter Try.func115, Try.ntmps115
    go_wp2_with fail
    go_region
    go_wp2
    (first | go_end0 | refine bodyPost_ret (results_none rfl _ _ _) rfl ?_)
    exact ⟨rfl, HF.out.drew, gb_drew (gb_setB (gb_setB (gb_refl w (some g)) _) _)⟩

theorem infoTurn : (Try.prog.info? 92).map (fun i => (i.zero, i.size, i.bytes)) = some (some .nilIface, 1, 16) := by kernel_rfl

set_option maxHeartbeats 4000000 in
theorem push_any (B hb : Nat) (v : Value) (L : List It) (x : It) (w : World) (h : HpM w B hb v L) (hx : It.ok x) (hL : L.length < 1000000) :
    Calls Try.prog 114 #[.pointer (some ⟨hb, 0, none⟩), itV x] w fun r w' => r = .returned (.tuple #[]) ∧ ∃ v', Hid (HpM w' B hb v' (L ++ [x])) ∧ Hid (Only (HpS hb v) w w') ∧ Hid (v'.ownBlock = v.ownBlock ∨ ∃ k, v'.ownBlock = some k ∧ w.heap.size ≤ k) := by
  obtain ⟨i0, hi0, hz00, hz10, hz20⟩ := info_parts infoTurn
  have hi := Lib.hid hi0
  have hz0 := Lib.hid hz00
  have hz1 := Lib.hid hz10
  have hz2 := Lib.hid hz20
  obtain ⟨a, c, rfl⟩ := owns_slice h.row
  have H := Lib.hid h
  have c0 : w.cell? ⟨hb, 0, none⟩ = some (.slice a L.length c) := h.blk.cell 0
  have f0 := h.blk.free 0
  have bl := h.blk.lt
  clear hi0 hz00 hz10 hz20 h
  obtain ⟨no, p, k⟩ := x
  cases k with
  | true =>
    show Calls Try.prog 114 #[.pointer (some ⟨hb, 0, none⟩), .iface 120 (.agg #[.int .i64 no, .int .i64 p])] w _
    have hta : ∀ w, (Instr.typeAssert (.iface 120 (.agg #[.int .i64 no, .int .i64 p])) 20 92 true).run Try.prog w = .ok (.tuple #[.iface 120 (.agg #[.int .i64 no, .int .i64 p]), .bool true]) w := fun _ => by kernel_rfl
    go_enter Try.func114, Try.ntmps114
    go_wp2_with (at_builtin; refine wpList_append_at _ rfl (.tmp 15) (.tmp 17) 89 rfl B 92 i0 .nilIface 1 16 Try.underlying89 hi.out hz0.out hz1.out hz2.out rfl (by decide) (.slice a L.length c) L.length (L.map itV) rfl (H.out.row.alloc _) ⟨w.heap.size, 0, none⟩ 1 1 [.iface 120 (.agg #[.int .i64 no, .int .i64 p])] rfl rfl (new_cells _ _ _) (by intro u hu; simp at hu; subst hu; rfl) (by unfold maxLen; omega) (by omega) (by have := H.out.lo; have := H.out.blk.lt; simp; omega) (by decide) ?_; intro g' c' w1 ho1 hg1 hv1; have B1 := Lib.hid ((H.out.blk.alloc _).grown hg1 (fun e => H.out.ne e.symm)); have d0 := B1.out.cell 0; have d1 := B1.out.free 0; have HO := Lib.hid ho1; have HG := Lib.hid hg1; have HV := Lib.hid hv1; clear ho1 hg1 hv1)
    (first | go_end0 | refine bodyPost_ret (results_none rfl _ _ _) rfl ?_)
    have hne : g' ≠ hb := by
      rcases HV.out with e | e
      · intro e2; exact H.out.ne (e2 ▸ e.symm)
      · have := H.out.blk.lt; simp at e; omega
    refine ⟨rfl, .slice (some ⟨g', 0, none⟩) (L.length + 1) c', ⟨B1.out.set 0 _, ?_, fun e => hne (by cases e; rfl), H.out.lo, fun y hy => ?_⟩, ?_, ?_⟩
    · have := ownsRow_keep (w' := w1.setCell ⟨hb, 0, none⟩ (.slice (some ⟨g', 0, none⟩) (L.length + 1) c')) HO.out (fun k e => Below.heap_setCell _ _ _ _ (by cases e; exact hne))
      rw [List.length_append, List.map_append]
      exact this
    · rcases List.mem_append.1 hy with hy | hy
      · exact H.out.ok y hy
      · have : y = ⟨no, p, true⟩ := by simpa using hy
        rw [this]; exact hx
    · exact ((Only.none (World.grownBy_alloc w _ none)).trans (Only.of HG.out (fun k e _ => .inr e))).trans (Only.of (gb_setB (gb_refl w1 _) (.slice (some ⟨g', 0, none⟩) (L.length + 1) c')) (fun k e _ => .inl (by cases e; rfl)))
    · rcases HV.out with e | e
      · exact .inl e
      · simp at e
        exact .inr ⟨g', rfl, by omega⟩
  | false =>
    show Calls Try.prog 114 #[.pointer (some ⟨hb, 0, none⟩), .iface 118 (.agg #[.int .i64 no, .int .i64 p])] w _
    have hta : ∀ w, (Instr.typeAssert (.iface 118 (.agg #[.int .i64 no, .int .i64 p])) 20 92 true).run Try.prog w = .ok (.tuple #[.iface 118 (.agg #[.int .i64 no, .int .i64 p]), .bool true]) w := fun _ => by kernel_rfl
    go_enter Try.func114, Try.ntmps114
    go_wp2_with (at_builtin; refine wpList_append_at _ rfl (.tmp 15) (.tmp 17) 89 rfl B 92 i0 .nilIface 1 16 Try.underlying89 hi.out hz0.out hz1.out hz2.out rfl (by decide) (.slice a L.length c) L.length (L.map itV) rfl (H.out.row.alloc _) ⟨w.heap.size, 0, none⟩ 1 1 [.iface 118 (.agg #[.int .i64 no, .int .i64 p])] rfl rfl (new_cells _ _ _) (by intro u hu; simp at hu; subst hu; rfl) (by unfold maxLen; omega) (by omega) (by have := H.out.lo; have := H.out.blk.lt; simp; omega) (by decide) ?_; intro g' c' w1 ho1 hg1 hv1; have B1 := Lib.hid ((H.out.blk.alloc _).grown hg1 (fun e => H.out.ne e.symm)); have d0 := B1.out.cell 0; have d1 := B1.out.free 0; have HO := Lib.hid ho1; have HG := Lib.hid hg1; have HV := Lib.hid hv1; clear ho1 hg1 hv1)
    (first | go_end0 | refine bodyPost_ret (results_none rfl _ _ _) rfl ?_)
    have hne : g' ≠ hb := by
      rcases HV.out with e | e
      · intro e2; exact H.out.ne (e2 ▸ e.symm)
      · have := H.out.blk.lt; simp at e; omega
    refine ⟨rfl, .slice (some ⟨g', 0, none⟩) (L.length + 1) c', ⟨B1.out.set 0 _, ?_, fun e => hne (by cases e; rfl), H.out.lo, fun y hy => ?_⟩, ?_, ?_⟩
    · have := ownsRow_keep (w' := w1.setCell ⟨hb, 0, none⟩ (.slice (some ⟨g', 0, none⟩) (L.length + 1) c')) HO.out (fun k e => Below.heap_setCell _ _ _ _ (by cases e; exact hne))
      rw [List.length_append, List.map_append]
      exact this
    · rcases List.mem_append.1 hy with hy | hy
      · exact H.out.ok y hy
      · have : y = ⟨no, p, false⟩ := by simpa using hy
        rw [this]; exact hx
    · exact ((Only.none (World.grownBy_alloc w _ none)).trans (Only.of HG.out (fun k e _ => .inr e))).trans (Only.of (gb_setB (gb_refl w1 _) (.slice (some ⟨g', 0, none⟩) (L.length + 1) c')) (fun k e _ => .inl (by cases e; rfl)))
    · rcases HV.out with e | e
      · exact .inl e
      · simp at e
        exact .inr ⟨g', rfl, by omega⟩

set_option maxHeartbeats 4000000 in
theorem pop_any (B hb : Nat) (v : Value) (L : List It) (x : It) (m : Nat) (w : World) (h : HpM w B hb v L) (hm : L.length = m + 1) (hx : L[m]? = some x) (hL : L.length ≤ 1000000) :
    Calls Try.prog 113 #[.pointer (some ⟨hb, 0, none⟩)] w fun r w' => r = .returned (itV x) ∧ ∃ v', Hid (HpM w' B hb v' (L.take m)) ∧ Hid (Only (HpS hb v) w w') ∧ Hid (v'.ownBlock = v.ownBlock) := by
  obtain ⟨g, c, rfl, gl, cg, fg⟩ := h.cell hx
  obtain ⟨T, u, e⟩ := itV_iface x
  rw [e] at cg ⊢
  have H := Lib.hid h
  have c0 : w.cell? ⟨hb, 0, none⟩ = some (.slice (some ⟨g, 0, none⟩) L.length c) := h.blk.cell 0
  have f0 := h.blk.free 0
  have bl := h.blk.lt
  have hc := row_cap h.row
  clear h e
  have hm1 : (L.length : Int) = (m : Int) + 1 := by omega
  have hm2 : (m : Int) < 1000000 := by omega
  generalize hN : L.length = N at *
  subst hm
  go_enter Try.func113, Try.ntmps113
  go_wp2
  go_ret
  have hlen : (L.take m).length = m := by simp; omega
  have hLe : L.map itV = (L.take m).map itV ++ [itV x] := by
    have h1 : L = L.take m ++ [x] := by
      conv => lhs; rw [← List.take_append_drop m L]
      congr 1
      rw [List.drop_eq_getElem_cons (by omega), List.drop_eq_nil_of_le (by omega)]
      congr 1
      rw [List.getElem?_eq_getElem (by omega)] at hx
      injection hx
    conv => lhs; rw [h1]
    simp
  have hrow := H.out.row
  rw [hN, hLe] at hrow
  have hrow2 := ownsRow_pop (by simp; omega) hrow
  refine ⟨rfl, .slice (some ⟨g, 0, none⟩) m c, ⟨H.out.blk.set 0 _, ?_, fun e => H.out.ne (by cases e; rfl), H.out.lo, fun y hy => H.out.ok y (List.mem_of_mem_take hy)⟩, Only.of (gb_setB (gb_refl w _) (.slice (some ⟨g, 0, none⟩) m c)) (fun k e _ => .inl (by cases e; rfl)), rfl⟩
  rw [hlen]
  exact ownsRow_keep hrow2 (fun k e => Below.heap_setCell _ _ _ _ (by cases e; intro e2; exact H.out.ne (congrArg some e2)))
end Go.Proofs.Ytkidkhjpijjphaa.oq

/- container/heap over the turns (package opaque): up, down, Push, Pop. -/
namespace Go.Proofs.Ytkidkhjpijjphaa.oq
open Go Go.RowKit Go.Proofs.Ytkidkhjpijjphaa.base Go.Proofs.Ytkidkhjpijjphaa.hs Go.Proofs.Ytkidkhjpijjphaa.lg Go.Maps
set_option linter.unusedVariables false
set_option maxRecDepth 100000
set_option linter.unusedSimpArgs false

theorem load_run (P : Program) (w : World) (a : Addr) (u : Value) (f : FuncId) (h : w.cell? a = some u) : ((load a >>= fun x => pure (f, x)) : Sem (FuncId × Value)).run P w = .ok (f, u) w := by
  simp [h, go_sem]
theorem meth_less (b : Nat) (w : World) (u : Value) (h : w.cell? ⟨b, 0, none⟩ = some u) : (method 289 87 (.pointer (some ⟨b, 0, none⟩)) "Less").run Try.prog w = .ok (112, u) w :=
  (show (method 289 87 (.pointer (some ⟨b, 0, none⟩)) "Less").run Try.prog w = ((load ⟨b, 0, none⟩ >>= fun x => pure (112, x)) : Sem (FuncId × Value)).run Try.prog w by kernel_rfl).trans (load_run _ _ _ _ _ h)
theorem meth_swap (b : Nat) (w : World) (u : Value) (h : w.cell? ⟨b, 0, none⟩ = some u) : (method 289 87 (.pointer (some ⟨b, 0, none⟩)) "Swap").run Try.prog w = .ok (115, u) w :=
  (show (method 289 87 (.pointer (some ⟨b, 0, none⟩)) "Swap").run Try.prog w = ((load ⟨b, 0, none⟩ >>= fun x => pure (115, x)) : Sem (FuncId × Value)).run Try.prog w by kernel_rfl).trans (load_run _ _ _ _ _ h)
theorem meth_len (b : Nat) (w : World) (u : Value) (h : w.cell? ⟨b, 0, none⟩ = some u) : (method 289 87 (.pointer (some ⟨b, 0, none⟩)) "Len").run Try.prog w = .ok (47, u) w :=
  (show (method 289 87 (.pointer (some ⟨b, 0, none⟩)) "Len").run Try.prog w = ((load ⟨b, 0, none⟩ >>= fun x => pure (47, x)) : Sem (FuncId × Value)).run Try.prog w by kernel_rfl).trans (load_run _ _ _ _ _ h)

set_option maxHeartbeats 400000 in
theorem up_any (B hb j n : Nat) (v : Value) (L : List It) (w : World) (h : HpM w B hb v L) (hn : n = L.length) (hj : j < n) (hL : n ≤ 1000000) (hu : UpN L n j) :
    Calls Try.prog 60 #[.iface 87 (.pointer (some ⟨hb, 0, none⟩)), .int .i64 j] w fun r w' => r = .returned (.tuple #[]) ∧ ∃ L', Hid (HpM w' B hb v L') ∧ Hid (Only (HpS hb v) w w') ∧ Hid (L'.Perm L) ∧ Hid (HeapN L' n) := by
  have HN := Lib.hid hn
  clear hn
  go_enter Try.func60, Try.ntmps60
  go_wp2_with fail
  go_loopw [1] (fun jv wr => ∃ (k : Nat) (M : List It), k < n ∧ jv = .int .i64 k ∧ Hid (HpM wr B hb v M) ∧ Hid (M.Perm L) ∧ Hid (UpN M n k) ∧ Hid (Only (HpS hb v) w wr)) (fun jv _ => (intOf jv).toNat)
  case atStart => exact ⟨j, L, hj, rfl, h, List.Perm.refl _, hu, Only.none (gb_refl w none)⟩
  case round =>
    obtain ⟨k, M, hk, rfl, H, HP, HU, HO⟩ := hrel
    have hML : M.length = n := by rw [HP.out.length_eq, HN.out]
    by_cases hk0 : k = 0
    · subst hk0
      go_wp2
      (first | go_end0 | refine bodyPost_ret (results_none rfl _ _ _) rfl ?_)
      exact ⟨rfl, M, H, HO, HP, HU.out.zero⟩
    · obtain ⟨q, hq⟩ : ∃ q, q = (k - 1) / 2 := ⟨_, rfl⟩
      have hq1 : ((k : Int) - 1) / 2 = (q : Int) := by omega
      have hqk : q < k := by omega
      have fq : ((q : Int) == (k : Int)) = false := by simp; omega
      obtain ⟨g, c, hv, gl, ck, _⟩ := H.out.cell (get_itAt (show k < M.length by omega))
      obtain ⟨_, _, e9, _, cq, _⟩ := H.out.cell (get_itAt (show q < M.length by omega))
      rw [hv] at e9
      cases e9
      rw [hML] at hv
      subst hv
      have HQ := Lib.hid hq
      have bl := H.out.blk.lt
      have hm1 := meth_less hb wr _ (H.out.blk.cell 0)
      have LS := Lib.hid (less_any g n c k q (itAt M k) (itAt M q) wr hk (by omega) (H.out.ok _ (itAt_mem (by omega))) (H.out.ok _ (itAt_mem (by omega))) ck cq)
      clear ck cq hq
      cases hl : (itAt M k).less (itAt M q) with
      | true =>
        rw [hl] at LS
        have HL := Lib.hid hl
        clear hl
        have hst := HU.out.step hML.symm (by omega) hk (by rw [← HQ.out]; exact HL.out)
        rw [← HQ.out] at hst
        have HST := Lib.hid hst
        clear hst
        go_wp2_with (first
          | (go_at_call 112; refine LS.out.mono ?_; rintro r u1 ⟨rfl, g1⟩; have H1 := Lib.hid (H.out.grown g1.out); have hm2 := meth_swap hb u1 _ (H1.out.blk.cell 0); clear hm1)
          | (go_at_call 115; refine (swap_any B hb g n c q k M u1 H1.out hML.symm (by omega) (by omega)).mono ?_; rintro r u2 ⟨rfl, H2, g2⟩; clear hm2)
          | go_in)
        go_roundw
        case rel => exact ⟨q, swp M q k, by omega, rfl, H2, (swp_perm (by omega) (by omega)).trans HP.out, HST, HO.out.trans ((Only.none g1.out).trans (Only.of g2.out (fun i e _ => .inr e)))⟩
        case measure => simp [intOf]; omega
      | false =>
        rw [hl] at LS
        have HL := Lib.hid hl
        clear hl
        go_wp2_with (first
          | (go_at_call 112; refine LS.out.mono ?_; rintro r u1 ⟨rfl, g1⟩; have H1 := Lib.hid (H.out.grown g1.out); clear hm1)
          | go_in)
        (first | go_end0 | refine bodyPost_ret (results_none rfl _ _ _) rfl ?_)
        exact ⟨rfl, M, H1, HO.out.trans (Only.none g1.out), HP, HU.out.stop (by rw [← HQ.out]; exact HL.out)⟩
end Go.Proofs.Ytkidkhjpijjphaa.oq

/- container/heap over the turns (package opaque): down, Push, Pop. -/
namespace Go.Proofs.Ytkidkhjpijjphaa.oq
open Go Go.RowKit Go.Proofs.Ytkidkhjpijjphaa.base Go.Proofs.Ytkidkhjpijjphaa.hs Go.Proofs.Ytkidkhjpijjphaa.lg Go.Maps
set_option linter.unusedVariables false
set_option maxRecDepth 100000
set_option linter.unusedSimpArgs false

theorem HpM.less {w u : World} {B hb : Nat} {v : Value} {L : List It} (h : HpM w B hb v L) (g : w.grownBy u none) {i j : Nat} (hi : i < L.length) (hj : j < L.length) :
    Calls Try.prog 112 #[v, .int .i64 i, .int .i64 j] u fun r w' => r = .returned (.bool ((itAt L i).less (itAt L j))) ∧ Hid (u.grownBy w' none) := by
  have H := h.grown g
  obtain ⟨b, c, hv, _, ci, _⟩ := H.cell (get_itAt hi)
  obtain ⟨_, _, e9, _, cj, _⟩ := H.cell (get_itAt hj)
  rw [hv] at e9
  cases e9
  subst hv
  exact less_any b L.length c i j (itAt L i) (itAt L j) u hi hj (h.ok _ (itAt_mem hi)) (h.ok _ (itAt_mem hj)) ci cj
theorem HpM.swp {w : World} {B hb : Nat} {v : Value} {L : List It} (h : HpM w B hb v L) {i j : Nat} (hi : i < L.length) (hj : j < L.length) :
    Calls Try.prog 115 #[v, .int .i64 i, .int .i64 j] w fun r w' => r = .returned (.tuple #[]) ∧ Hid (HpM w' B hb v (base.swp L i j)) ∧ Hid (Only (HpS hb v) w w') := by
  obtain ⟨b, c, hv, _, ci, _⟩ := h.cell (get_itAt hi)
  subst hv
  exact (swap_any B hb b L.length c i j L w h rfl hi hj).mono fun _ _ h => ⟨h.1, h.2.1, Only.of h.2.2.out (fun i e _ => .inr e)⟩

set_option maxHeartbeats 1000000 in
theorem down_any (B hb n : Nat) (v : Value) (L : List It) (w : World) (h : HpM w B hb v L) (hn : L.length = n + 1) (hL : n ≤ 1000000) (hd : DownN L n 0) :
    Calls Try.prog 61 #[.iface 87 (.pointer (some ⟨hb, 0, none⟩)), .int .i64 0, .int .i64 n] w fun r w' => (∃ u, r = .returned u) ∧ ∃ L', Hid (HpM w' B hb v L') ∧ Hid (Only (HpS hb v) w w') ∧ Hid (L'.Perm L) ∧ Hid (HeapN L' n) ∧ Hid (itAt L' n = itAt L n) := by
  have HN := Lib.hid hn
  clear hn
  go_enter Try.func61, Try.ntmps61
  go_wp2_with fail
  go_loopw [7] (fun jv wr => ∃ (k : Nat) (M : List It), (k < n ∨ k = 0) ∧ jv = .int .i64 k ∧ Hid (HpM wr B hb v M) ∧ Hid (M.Perm L) ∧ Hid (DownN M n k) ∧ Hid (Only (HpS hb v) w wr) ∧ Hid (itAt M n = itAt L n)) (fun jv _ => (n - intOf jv).toNat)
  case atStart => exact ⟨0, L, .inr rfl, rfl, h, List.Perm.refl _, hd, Only.none (gb_refl w none), rfl⟩
  case round =>
    clear h hd
    obtain ⟨k, M, hk, rfl, H, HP, HD, HO, HL⟩ := hrel
    have hML : M.length = n + 1 := by rw [HP.out.length_eq, HN.out]
    have hk6 : (k : Int) ≤ 1000000 := by omega
    have hn6 : (n : Int) ≤ 1000000 := by omega
    obtain ⟨j1, hj1⟩ : ∃ j1, j1 = 2 * k + 1 := ⟨_, rfl⟩
    obtain ⟨j2, hj2⟩ : ∃ j2, j2 = 2 * k + 2 := ⟨_, rfl⟩
    have q1 : 2 * (k : Int) + 1 = (j1 : Int) := by omega
    have q2 : (j1 : Int) + 1 = (j2 : Int) := by omega
    have HJ1 := Lib.hid hj1
    have HJ2 := Lib.hid hj2
    have hj16 : (j1 : Int) ≤ 3000000 := by omega
    have hj0 : ¬ (j1 : Int) < 0 := by omega
    clear hj1 hj2
    have bl := H.out.blk.lt
    by_cases hlf : n ≤ j1
    · have hlf' : (n : Int) ≤ (j1 : Int) := by omega
      have HF := Lib.hid (HD.out.leaf (by have := HJ1.out; omega))
      go_wp2
      go_ret
      exact ⟨⟨_, rfl⟩, M, H, HO, HP, HF, HL⟩
    have hlf' : ¬ (n : Int) ≤ (j1 : Int) := by omega
    have hm1 := meth_less hb wr v (H.out.blk.cell 0)
    by_cases hrt : n ≤ j2
    · have hrt' : ¬ (j2 : Int) < (n : Int) := by omega
      have LE := Lib.hid (Lesser.left (L := M) (n := n) (i := k) (by have := HJ1.out; omega) (.inl (by have := HJ2.out; omega)))
      rw [← HJ1.out] at LE
      cases hq : (itAt M j1).less (itAt M k) with
      | true =>
        have Q := Lib.hid hq
        have ST := Lib.hid (HD.out.step (by omega) LE.out hq)
        clear hq
        go_wp2_with (first | (go_at_call 112; replace hm1 := hm1; refine (H.out.less (gb_refl wr none) (i := j1) (j := k) (by omega) (by omega)).mono ?_; rw [Q.out]; rintro r u2 ⟨rfl, g2⟩; have G2 := Lib.hid g2.out; have H2 := Lib.hid (H.out.grown G2.out); have hm4 := meth_swap hb u2 v (H2.out.blk.cell 0); clear hm1) | (go_at_call 115; refine (H2.out.swp (i := k) (j := j1) (by omega) (by omega)).mono ?_; rintro r u3 ⟨rfl, H3, O3⟩; clear hm4) | go_in)
        go_roundw; (case rel => exact ⟨j1, base.swp M k j1, .inl (by omega), rfl, H3, (swp_perm (by omega) (by omega)).trans HP.out, ST, (HO.out.trans (Only.none G2.out)).trans O3.out, (swp_last (by omega) (by omega) (by omega) (by omega)).trans HL.out⟩); (case measure => simp [intOf]; have := HJ1.out; have := HJ2.out; omega)
      | false =>
        have Q := Lib.hid hq
        have HF := Lib.hid (HD.out.stop LE.out hq)
        clear hq
        go_wp2_with (first | (go_at_call 112; replace hm1 := hm1; refine (H.out.less (gb_refl wr none) (i := j1) (j := k) (by omega) (by omega)).mono ?_; rw [Q.out]; rintro r u2 ⟨rfl, g2⟩; have G2 := Lib.hid g2.out; have H2 := Lib.hid (H.out.grown G2.out); have hm4 := meth_swap hb u2 v (H2.out.blk.cell 0); clear hm1) | go_in)
        (go_ret; exact ⟨⟨_, rfl⟩, M, H2, HO.out.trans (Only.none G2.out), HP, HF, HL⟩)
    have hrt' : (j2 : Int) < (n : Int) := by omega
    cases hq0 : (itAt M j2).less (itAt M j1) with
    | true =>
      have Q0 := Lib.hid hq0
      have LE := Lib.hid (Lesser.right (L := M) (n := n) (i := k) (by have := HJ2.out; omega) (by rw [← HJ2.out, ← HJ1.out]; exact hq0))
      rw [← HJ2.out] at LE
      clear hq0
      cases hq : (itAt M j2).less (itAt M k) with
      | true =>
        have Q := Lib.hid hq
        have ST := Lib.hid (HD.out.step (by omega) LE.out hq)
        clear hq
        go_wp2_with (first | (go_at_call 112; replace hm1 := hm1; refine (H.out.less (gb_refl wr none) (i := j2) (j := j1) (by omega) (by omega)).mono ?_; rw [Q0.out]; rintro r u1 ⟨rfl, g1⟩; have G1 := Lib.hid g1.out; have hm2 := meth_less hb u1 v ((H.out.grown g1.out).blk.cell 0); clear hm1) | (go_at_call 112; replace hm2 := hm2; refine (H.out.less G1.out (i := j2) (j := k) (by omega) (by omega)).mono ?_; rw [Q.out]; rintro r u2 ⟨rfl, g2⟩; have G2 := Lib.hid (gb_trans G1.out g2.out); have H2 := Lib.hid (H.out.grown G2.out); have hm4 := meth_swap hb u2 v (H2.out.blk.cell 0); clear hm2) | (go_at_call 115; refine (H2.out.swp (i := k) (j := j2) (by omega) (by omega)).mono ?_; rintro r u3 ⟨rfl, H3, O3⟩; clear hm4) | go_in)
        go_roundw; (case rel => exact ⟨j2, base.swp M k j2, .inl (by omega), rfl, H3, (swp_perm (by omega) (by omega)).trans HP.out, ST, (HO.out.trans (Only.none G2.out)).trans O3.out, (swp_last (by omega) (by omega) (by omega) (by omega)).trans HL.out⟩); (case measure => simp [intOf]; have := HJ1.out; have := HJ2.out; omega)
      | false =>
        have Q := Lib.hid hq
        have HF := Lib.hid (HD.out.stop LE.out hq)
        clear hq
        go_wp2_with (first | (go_at_call 112; replace hm1 := hm1; refine (H.out.less (gb_refl wr none) (i := j2) (j := j1) (by omega) (by omega)).mono ?_; rw [Q0.out]; rintro r u1 ⟨rfl, g1⟩; have G1 := Lib.hid g1.out; have hm2 := meth_less hb u1 v ((H.out.grown g1.out).blk.cell 0); clear hm1) | (go_at_call 112; replace hm2 := hm2; refine (H.out.less G1.out (i := j2) (j := k) (by omega) (by omega)).mono ?_; rw [Q.out]; rintro r u2 ⟨rfl, g2⟩; have G2 := Lib.hid (gb_trans G1.out g2.out); have H2 := Lib.hid (H.out.grown G2.out); have hm4 := meth_swap hb u2 v (H2.out.blk.cell 0); clear hm2) | go_in)
        (go_ret; exact ⟨⟨_, rfl⟩, M, H2, HO.out.trans (Only.none G2.out), HP, HF, HL⟩)
    | false =>
      have Q0 := Lib.hid hq0
      have LE := Lib.hid (Lesser.left (L := M) (n := n) (i := k) (by have := HJ1.out; omega) (.inr (by rw [← HJ2.out, ← HJ1.out]; exact hq0)))
      rw [← HJ1.out] at LE
      clear hq0
      cases hq : (itAt M j1).less (itAt M k) with
      | true =>
        have Q := Lib.hid hq
        have ST := Lib.hid (HD.out.step (by omega) LE.out hq)
        clear hq
        go_wp2_with (first | (go_at_call 112; replace hm1 := hm1; refine (H.out.less (gb_refl wr none) (i := j2) (j := j1) (by omega) (by omega)).mono ?_; rw [Q0.out]; rintro r u1 ⟨rfl, g1⟩; have G1 := Lib.hid g1.out; have hm2 := meth_less hb u1 v ((H.out.grown g1.out).blk.cell 0); clear hm1) | (go_at_call 112; replace hm2 := hm2; refine (H.out.less G1.out (i := j1) (j := k) (by omega) (by omega)).mono ?_; rw [Q.out]; rintro r u2 ⟨rfl, g2⟩; have G2 := Lib.hid (gb_trans G1.out g2.out); have H2 := Lib.hid (H.out.grown G2.out); have hm4 := meth_swap hb u2 v (H2.out.blk.cell 0); clear hm2) | (go_at_call 115; refine (H2.out.swp (i := k) (j := j1) (by omega) (by omega)).mono ?_; rintro r u3 ⟨rfl, H3, O3⟩; clear hm4) | go_in)
        go_roundw; (case rel => exact ⟨j1, base.swp M k j1, .inl (by omega), rfl, H3, (swp_perm (by omega) (by omega)).trans HP.out, ST, (HO.out.trans (Only.none G2.out)).trans O3.out, (swp_last (by omega) (by omega) (by omega) (by omega)).trans HL.out⟩); (case measure => simp [intOf]; have := HJ1.out; have := HJ2.out; omega)
      | false =>
        have Q := Lib.hid hq
        have HF := Lib.hid (HD.out.stop LE.out hq)
        clear hq
        go_wp2_with (first | (go_at_call 112; replace hm1 := hm1; refine (H.out.less (gb_refl wr none) (i := j2) (j := j1) (by omega) (by omega)).mono ?_; rw [Q0.out]; rintro r u1 ⟨rfl, g1⟩; have G1 := Lib.hid g1.out; have hm2 := meth_less hb u1 v ((H.out.grown g1.out).blk.cell 0); clear hm1) | (go_at_call 112; replace hm2 := hm2; refine (H.out.less G1.out (i := j1) (j := k) (by omega) (by omega)).mono ?_; rw [Q.out]; rintro r u2 ⟨rfl, g2⟩; have G2 := Lib.hid (gb_trans G1.out g2.out); have H2 := Lib.hid (H.out.grown G2.out); have hm4 := meth_swap hb u2 v (H2.out.blk.cell 0); clear hm2) | go_in)
        (go_ret; exact ⟨⟨_, rfl⟩, M, H2, HO.out.trans (Only.none G2.out), HP, HF, HL⟩)
end Go.Proofs.Ytkidkhjpijjphaa.oq

/- container/heap over the turns (package opaque): Push, Pop. -/
namespace Go.Proofs.Ytkidkhjpijjphaa.oq
open Go Go.RowKit Go.Proofs.Ytkidkhjpijjphaa.base Go.Proofs.Ytkidkhjpijjphaa.hs Go.Proofs.Ytkidkhjpijjphaa.lg Go.Maps
set_option linter.unusedVariables false
set_option maxRecDepth 100000
set_option linter.unusedSimpArgs false

set_option maxHeartbeats 1000000 in
theorem hpush_any (B hb : Nat) (v : Value) (L : List It) (x : It) (w : World) (h : HpM w B hb v L) (hh : HeapN L L.length) (hx : It.ok x) (hL : L.length < 1000000) :
    Calls Try.prog 45 #[.iface 87 (.pointer (some ⟨hb, 0, none⟩)), itV x] w fun r w' => r = .returned (.tuple #[]) ∧ ∃ v' L', Hid (HpM w' B hb v' L') ∧ Hid (Step (HpS hb v) (HpS hb v') w w') ∧ Hid (L'.Perm (L ++ [x])) ∧ Hid (HeapN L' L'.length) := by
  obtain ⟨T, u, e⟩ := itV_iface x
  have PU := Lib.hid (push_any B hb v L x w h hx hL)
  have UP := Lib.hid (UpN.push hh x)
  rw [e] at PU ⊢
  have hL' : ((L.length : Int) + 1) ≤ 1000000 := by omega
  clear h hh e
  generalize hN : L.length = N at *
  have HN := Lib.hid hN
  clear hN
  go_enter Try.func45, Try.ntmps45
  go_wp2_with (first
    | (go_at_call 114; refine PU.out.mono ?_; rintro r u1 ⟨rfl, v1, H1, O1, E1⟩; have hm1 := meth_len hb u1 v1 (H1.out.blk.cell 0); have bl := H1.out.blk.lt; obtain ⟨a1, c1, hv1⟩ := owns_slice H1.out.row; rw [List.length_append, List.length_singleton, HN.out] at hv1; rw [hv1] at hm1)
    | (go_at_call 47; refine (len_any a1 (N + 1) c1 u1).mono ?_; rintro r u2 ⟨rfl, rfl⟩; rw [← hv1] at *; clear hv1 hm1)
    | (go_at_call 60; refine (up_any B hb N (N + 1) v1 (L ++ [x]) _ H1.out (by rw [List.length_append, HN.out]; rfl) (by omega) (by omega) UP.out).mono ?_; rintro r u3 ⟨rfl, L3, H3, O3, P3, HP3⟩)
    | go_in)
  (first | go_end0 | refine bodyPost_ret (results_none rfl _ _ _) rfl ?_)
  refine ⟨rfl, v1, L3, H3, Step.trans ⟨O1.out, ?_⟩ ⟨O3.out, fun k h => .inl h⟩, P3, ?_⟩
  · rintro k (rfl | hk)
    · exact .inl (.inl rfl)
    · rcases E1.out with h1 | ⟨i, h1, h2⟩
      · exact .inl (.inr (h1 ▸ hk))
      · rw [hk] at h1
        cases h1
        exact .inr h2
  · have := P3.out.length_eq
    rw [List.length_append, HN.out] at this
    show HeapN L3 L3.length
    rw [this]
    exact HP3.out

set_option maxHeartbeats 1000000 in
theorem hpop_any (B hb : Nat) (v : Value) (L : List It) (m : Nat) (w : World) (h : HpM w B hb v L) (hh : HeapN L L.length) (hm : L.length = m + 1) (hL : m < 1000000) :
    Calls Try.prog 48 #[.iface 87 (.pointer (some ⟨hb, 0, none⟩))] w fun r w' => r = .returned (itV (itAt L 0)) ∧ ∃ v' L', Hid (HpM w' B hb v' L') ∧ Hid (Step (HpS hb v) (HpS hb v') w w') ∧ Hid (HeapN L' L'.length) ∧ Hid (L'.length = m) ∧ Hid ((itAt L 0 :: L').Perm L) ∧ Hid (∀ y ∈ L', (itAt L 0).le y) := by
  have H := Lib.hid h
  have HM := Lib.hid hm
  rw [hm] at hh
  have HH := Lib.hid hh
  have SW := Lib.hid (h.swp (i := 0) (j := m) (by omega) (by omega))
  have DN := Lib.hid (DownN.pop hh hm)
  have bl := h.blk.lt
  have hm1 := meth_len hb w v (h.blk.cell 0)
  have hm2 := meth_swap hb w v (h.blk.cell 0)
  have hL' : (m : Int) + 1 ≤ 1000000 := by omega
  obtain ⟨a1, c1, hv1⟩ := owns_slice h.row
  rw [hm] at hv1
  clear h hh hm
  subst hv1
  go_enter Try.func48, Try.ntmps48
  go_wp2_with (first
    | (go_at_call 47; refine (len_any a1 (m + 1) c1 w).mono ?_; rintro r u2 ⟨rfl, rfl⟩; clear hm1)
    | (go_at_call 115; refine SW.out.mono ?_; rintro r u1 ⟨rfl, H1, O1⟩; clear hm2; have bl1 := H1.out.blk.lt)
    | (go_at_call 61; refine (down_any B hb m _ (base.swp L 0 m) u1 H1.out (by rw [swp_len, HM.out]) (by omega) DN.out).mono ?_; rintro r u3 ⟨⟨q, rfl⟩, L3, H3, O3, P3, HP3, E3⟩; obtain ⟨k1, k2, k3, k4, k5⟩ := heap_out HH.out HM.out P3.out E3.out HP3.out; have K1 := Lib.hid k1; have K2 := Lib.hid k2; have K3 := Lib.hid k3; have K4 := Lib.hid k4; have K5 := Lib.hid k5; clear k1 k2 k3 k4 k5; have bl3 := H3.out.blk.lt)
    | (go_at_call 113; refine (pop_any B hb _ L3 _ m u3 H3.out (by rw [P3.out.length_eq, swp_len, HM.out]) K1.out (by rw [P3.out.length_eq, swp_len, HM.out]; omega)).mono ?_; rintro r u4 ⟨rfl, v4, H4, O4, E4⟩)
    | go_in)
  go_ret
  refine ⟨rfl, v4, L3.take m, H4, Step.trans ⟨(O1.out.trans O3.out).trans O4.out, fun k h => .inl h⟩ ⟨Only.refl _ _, ?_⟩, K2, K3, K4, K5⟩
  rintro k (rfl | hk)
  · exact .inl (.inl rfl)
  · exact .inl (.inr (by rw [← E4.out]; exact hk))
end Go.Proofs.Ytkidkhjpijjphaa.oq

/- Package opaque's ordered: the tries in the order in which they have their turns. -/
namespace Go.Proofs.Ytkidkhjpijjphaa.oq
open Go Go.RowKit Go.Proofs.Ytkidkhjpijjphaa.base Go.Proofs.Ytkidkhjpijjphaa.hs Go.Proofs.Ytkidkhjpijjphaa.lg Go.Maps
set_option linter.unusedVariables false
set_option maxRecDepth 100000
set_option linter.unusedSimpArgs false

def noV (x : It) : Value := .int .i64 x.no
theorem infoInt : (Try.prog.info? 3).map (fun i => (i.zero, i.size, i.bytes)) = some (some (.int .i64 0), 1, 8) := by kernel_rfl
theorem ta_done (no : Nat) (p : Int) (w : World) : (Instr.typeAssert (.iface 120 (.agg #[.int .i64 no, .int .i64 p])) 20 92 true).run Try.prog w = .ok (.tuple #[.iface 120 (.agg #[.int .i64 no, .int .i64 p]), .bool true]) w := by kernel_rfl
theorem ta_plain (no : Nat) (p : Int) (w : World) : (Instr.typeAssert (.iface 118 (.agg #[.int .i64 no, .int .i64 p])) 20 92 true).run Try.prog w = .ok (.tuple #[.iface 118 (.agg #[.int .i64 no, .int .i64 p]), .bool true]) w := by kernel_rfl

/-- A row of another type has no block of the heap's. -/
theorem HpM.other {w : World} {B hb : Nat} {v : Value} {L : List It} (h : HpM w B hb v L) {B2 : Nat} {e : TypeId} {sz n : Nat} {u : Value} {xs : List Value} (hr : w.ownsRow B2 e sz u n xs) (h1 : e ≠ 89) (h2 : e ≠ 92) : ∀ k, u.ownBlock = some k → ¬ HpS hb v k := by
  rintro k hk (rfl | hv)
  · obtain ⟨cs, hc⟩ := ownsRow_type hr hk
    have := h.blk
    unfold Blk at this
    rw [hc] at this
    injection this with this
    injection this with _ h3
    exact h1 h3
  · obtain ⟨cs, hc⟩ := ownsRow_type hr hk
    obtain ⟨ds, hd⟩ := ownsRow_type h.row hv
    rw [hc] at hd
    injection hd with hd
    injection hd with _ h3
    exact h2 h3

/-- What stands while turns are taken out. -/
structure OrdI (w : World) (hb : Nat) (ts : List Tr) (f : Nat → Int) (ov v : Value) (xs L : List It) (wr : World) : Prop where
  row : wr.ownsRow w.heap.size 3 1 ov xs.length (xs.map noV)
  hp : HpM wr w.heap.size hb v L
  heap : HeapN L L.length
  perm : (xs ++ L).Perm (itsOf ts f)
  pw : xs.Pairwise It.le
  lo : ∀ x ∈ xs, ∀ y ∈ L, x.le y
  gr : w.grownBy wr none

theorem gb_of_bl {w w' : World} (h : Below w.heap.size w w') : w.grownBy w' none := ⟨h.os, h.tape, h.output, h.size, fun k hk _ => h.block k hk⟩
def lenOf : Value → Nat
  | .slice _ n _ => n
  | _ => 0

/-- One more is taken out, and put behind those that were. -/
theorem OrdI.next {w wr u2 u3 w1 : World} {hb : Nat} {ts : List Tr} {f : Nat → Int} {ov v v2 : Value} {xs L L2 : List It} {q : It} {g' c' : Nat} (D : OrdI w hb ts f ov v xs L wr) (HLO : ∀ x ∈ xs, x.le q) (S2 : Step (HpS hb v) (HpS hb v2) wr u2) (P2 : (q :: L2).Perm L) (HH2 : HeapN L2 L2.length) (LO2 : ∀ y ∈ L2, q.le y) (g3 : u2.grownBy u3 none) (H3 : HpM u3 w.heap.size hb v2 L2)
    (OR : u3.ownsRow w.heap.size 3 1 ov xs.length (xs.map noV)) (HO : w1.ownsRow w.heap.size 3 1 (.slice (some ⟨g', 0, none⟩) (xs.length + 1) c') (xs.length + 1) (xs.map noV ++ [.int .i64 q.no])) (HG : (u3.alloc (.cells #[.int .i64 q.no] 3)).grownBy w1 ov.ownBlock) :
    OrdI w hb ts f (.slice (some ⟨g', 0, none⟩) (xs.length + 1) c') v2 (xs ++ [q]) L2 w1 := by
  refine ⟨by rw [List.length_append, List.map_append]; exact HO, (H3.keep fun k hk => ?_), HH2, ?_, ?_, ?_, ?_⟩
  · have hk3 := H3.lts k hk
    refine (HG.block k (by simp; omega) (fun e => ?_)).trans (Below.heap_alloc _ _ _ hk3)
    exact H3.other OR (by decide) (by decide) k e.symm hk
  · rw [List.append_assoc]
    exact (P2.append_left xs).trans D.perm
  · refine List.pairwise_append.2 ⟨D.pw, by simp, fun x hx y hy => ?_⟩
    have : y = q := by simpa using hy
    rw [this]
    exact HLO x hx
  · intro x hx y hy
    rcases List.mem_append.1 hx with hx | hx
    · exact D.lo x hx y (P2.mem_iff.1 (List.mem_cons_of_mem _ hy))
    · have : x = q := by simpa using hx
      rw [this]
      exact LO2 y hy
  · have B1 := S2.only.below (gb_below D.gr) D.gr.size (fun i hi => by
      rcases hi with rfl | hi
      · exact D.hp.lo
      · exact (D.hp.row.lt i hi).1)
    have B2 := bl_none (bl_none B1 g3) (World.grownBy_alloc u3 (.cells #[.int .i64 q.no] 3) none)
    exact gb_of_bl (B2.grown HG B2.size (fun i e => (D.row.lt i e).1))

set_option maxHeartbeats 1000000 in
theorem ordered_any (w : World) (ta : Option Addr) (tc : Nat) (ys : List (Tr × Value)) (sa : Option Addr) (sc : Nat) (f : Nat → Int) (hT : TsAt w ta ys) (hs : IsNums .i64 w sa ys.length f) (hf : ∀ i, i < ys.length → 0 ≤ f i ∧ f i ≤ 1000000) (hn : ys.length ≤ 100000) :
    Calls Try.prog 28 #[.slice ta ys.length tc, .slice sa ys.length sc] w fun r w' => ∃ ov xs, r = .returned ov ∧ Hid (Ordered (ys.map Prod.fst) f xs) ∧ Hid (w'.ownsRow w.heap.size 3 1 ov xs.length (xs.map noV)) ∧ Hid (w.grownBy w' none) := by
  obtain ⟨i0, hi0, hz00, hz10, hz20⟩ := info_parts infoInt
  have hi := Lib.hid hi0
  have hz0 := Lib.hid hz00
  have hz1 := Lib.hid hz10
  have hz2 := Lib.hid hz20
  have HT := Lib.hid hT
  have HS := Lib.hid hs
  have HF := Lib.hid hf
  obtain ⟨ts, hts⟩ : ∃ ts, ts = ys.map Prod.fst := ⟨_, rfl⟩
  have HTS := Lib.hid hts
  rw [← hts]
  have htl : ts.length = ys.length := by rw [hts, List.length_map]
  have HTL := Lib.hid htl
  clear hT hs hf hi0 hz00 hz10 hz20 hts htl
  have G0 := Lib.hid (show World.grownBy w ((w.alloc (.cells #[] 92)).alloc (.cells #[.slice (some ⟨w.heap.size, 0, none⟩) 0 0] 89)) none from (by repeat (first | exact gb_refl _ _ | refine gb_drewN ?_ _ | refine gb_drew ?_ | refine gb_alloc ?_ _)))
  have I0 : Hid (HpM ((w.alloc (.cells #[] 92)).alloc (.cells #[.slice (some ⟨w.heap.size, 0, none⟩) 0 0] 89)) w.heap.size (w.heap.size + 1) (.slice (some ⟨w.heap.size, 0, none⟩) 0 0) []) := Lib.hid (by
    refine ⟨?_, ⟨rfl, .inr ⟨w.heap.size, 0, #[], rfl, Nat.le_refl _, ?_, Nat.le_refl _, Nat.zero_le _, rfl, rfl⟩⟩, by simp [Value.ownBlock], by omega, by simp⟩
    · have := Blk.made (w.alloc (.cells #[] 92)) 89 #[.slice (some ⟨w.heap.size, 0, none⟩) 0 0]
      rwa [World.size_alloc] at this
    · exact (Below.heap_alloc _ _ _ (by simp)).trans (World.alloc_heap_new w _))
  have HH0 : Hid (HeapN ([] : List It) ([] : List It).length) := Lib.hid (HeapN.nil _)
  go_enter Try.func28, Try.ntmps28
  go_wp2_with fail
  generalize (w.alloc _).alloc _ = u0 at *
  generalize hhb : w.heap.size + 1 = hb at *
  have HHB := Lib.hid hhb
  clear hhb
  go_loopw [15] (fun iv wr => ∃ (k : Nat) (v : Value) (L : List It), k ≤ ys.length ∧ iv = .int .i64 k ∧ Hid (HpM wr w.heap.size hb v L) ∧ Hid (HeapN L L.length) ∧ Hid (L.Perm (itsN ts f k)) ∧ Hid (w.grownBy wr none)) (fun iv _ => (ys.length - intOf iv).toNat)
  case atStart => exact ⟨0, _, _, by omega, rfl, I0, HH0, List.Perm.refl _, G0⟩
  case round =>
    clear I0 G0 HH0
    obtain ⟨k, v, L, hk, rfl, H, HH, HP, G⟩ := hrel
    have hLl := HP.out.length_eq
    rw [itsN_len] at hLl
    by_cases hlt : k < ys.length
    · have hlt' : (k : Int) < (ys.length : Int) := by omega
      have hk6 : (k : Int) < 1000000 := by omega
      have hget := List.getElem?_eq_getElem hlt
      have hgt : ts[k]? = some ys[k].1 := by rw [HTS.out, List.getElem?_map, hget]; rfl
      have hit := Lib.hid (itsN_succ ts f hgt)
      obtain ⟨hf0, hf1⟩ := HF.out k hlt
      obtain ⟨b, off, va, vc, rfl, hbl, hv, hl, c0, c1, c2, c3, c4, c5, c6, c7, c8⟩ := (HT.out.grown G.out).at hget
      obtain ⟨sb, so, rfl, hsb, cs⟩ := (HS.out.grown G.out).at1 hlt
      generalize ys[k] = y at *
      obtain ⟨t, yv⟩ := y
      dsimp only at hv hl hgt hit c0 c1 c2 c3 c4 c5 c6 c7 c8
      subst hv
      generalize f k = p at *
      have PU := fun u (g : Hid (wr.grownBy u none)) => hpush_any w.heap.size hb v L ⟨k, p, t.co⟩ u (H.out.grown g.out) HH.out ⟨show k ≤ 1000000 by omega, hf0, hf1⟩ (by omega)
      have HPU := Lib.hid PU
      clear PU hget hgt hl
      go_wp2_with (first
        | (go_at_call 46; refine (turnOf_any t (.slice va t.ac.length vc) k p _).mono ?_; rintro r u1 ⟨rfl, g1⟩)
        | (go_at_call 45; refine (HPU.out _ g1).mono ?_; rintro r u2 ⟨rfl, v2, L2, H2, S2, P2, HH2⟩)
        | go_in)
      go_roundw
      case rel => exact ⟨k + 1, v2, L2, by omega, by go_num, H2, HH2, P2.out.trans (by rw [hit.out]; exact HP.out.append_right _), gb_of_bl (S2.out.only.below (gb_below (gb_trans G.out g1.out)) (gb_trans G.out g1.out).size (fun i hi => by
        rcases hi with rfl | hi
        · exact H.out.lo
        · exact (H.out.row.lt i hi).1))⟩
      case measure => simp [intOf]; omega
    · obtain rfl : k = ys.length := by omega
      have HP2 : Hid (L.Perm (itsOf ts f)) := Lib.hid (by
        have := HP.out
        rw [← HTL.out] at this
        exact this)
      go_wp2_with fail
      have D0 : Hid (OrdI w hb ts f (.slice none 0 0) v [] L wr) := Lib.hid ⟨World.ownsRow_nil _ _ _ _, H.out, HH.out, HP2.out, List.Pairwise.nil, by simp, G.out⟩
      clear H HH HP HP2 G hlt hLl
      go_loopw [8] (fun ov wr => ∃ (v : Value) (xs L : List It), Hid (OrdI w hb ts f ov v xs L wr)) (fun ov _ => (ys.length - lenOf ov))
      case atStart => exact ⟨v, [], L, D0⟩
      case round =>
        clear D0
        obtain ⟨v, xs, L, D⟩ := hrel
        have hlen := D.out.perm.length_eq
        rw [List.length_append, show (itsOf ts f).length = ys.length by rw [← HTL.out]; simp [itsOf]] at hlen
        have c0 : wr.cell? ⟨hb, 0, none⟩ = some v := D.out.hp.blk.cell 0
        have bl := D.out.hp.blk.lt
        obtain ⟨oa, oc, rfl⟩ := owns_slice D.out.row
        obtain ⟨va, vc, hv⟩ := owns_slice D.out.hp.row
        subst hv
        cases hLc : L with
        | nil =>
          subst hLc
          go_wp2_with (first | (go_at_call 47; refine (len_any va 0 vc wr).mono ?_; rintro r u1 ⟨rfl, rfl⟩) | go_in)
          go_ret
          exact ⟨_, xs, rfl, ⟨by have := D.out.perm; rwa [List.append_nil] at this, D.out.pw⟩, D.out.row, D.out.gr⟩
        | cons y0 L0 =>
          obtain ⟨m, hm⟩ : ∃ m, m = L0.length := ⟨_, rfl⟩
          have hLm : L.length = m + 1 := by rw [hLc, hm]; rfl
          clear hLc hm y0 L0
          have hm6 : (m : Int) < 1000000 := by omega
          have hm0 : (0 : Int) < (m : Int) + 1 := by omega
          have hx6 : (xs.length : Int) < 1000000 := by omega
          have hys : xs.length < ys.length := by omega
          obtain ⟨q0, hq0⟩ : ∃ q, q = itAt L 0 := ⟨_, rfl⟩
          have POP := Lib.hid (hpop_any w.heap.size hb _ L m wr D.out.hp D.out.heap hLm (by omega))
          rw [← hq0] at POP
          have hk0 : It.ok q0 := by rw [hq0]; exact D.out.hp.ok _ (itAt_mem (by omega))
          have hlo : ∀ x ∈ xs, x.le q0 := fun x hx => D.out.lo x hx q0 (by rw [hq0]; exact itAt_mem (by omega))
          have HLO := Lib.hid hlo
          have HLM := Lib.hid hLm
          clear hq0 hlo hk0 hlen
          have c1 : wr.cell? ⟨hb, 0, none⟩ = some (.slice va (m + 1) vc) := by rw [c0, hLm]
          clear c0
          clear hLm
          obtain ⟨no, p, k⟩ := q0
          cases k with
          | true =>
            (have ta1 := fun w => ta_done no p w); (rw [show itV ⟨no, p, true⟩ = .iface 120 (.agg #[.int .i64 no, .int .i64 p]) from rfl] at POP); go_wp2_with (first | (go_at_call 47; refine (len_any va (m + 1) vc wr).mono ?_; rintro r u1 ⟨rfl, rfl⟩; clear c1) | (go_at_call 48; refine POP.out.mono ?_; rintro r u2 ⟨rfl, v2, L2, H2, S2, HH2, M2, P2, LO2⟩) | (go_at_call 116; refine (place_any no p u2).mono ?_; rintro r u3 ⟨rfl, g3⟩; have OR := Lib.hid (ownsRow_keep (w' := u3) D.out.row (fun k e => (g3.out.block k (Nat.lt_of_lt_of_le (D.out.row.lt k e).2 S2.out.only.size) (by simp)).trans (S2.out.only.block k (D.out.row.lt k e).2 (D.out.hp.other D.out.row (by decide) (by decide) k e)))); have H3 := Lib.hid (H2.out.grown g3.out)) | (at_builtin; refine wpList_append_at _ rfl (.tmp 44) (.tmp 47) 25 rfl w.heap.size 3 i0 (.int .i64 0) 1 8 Try.underlying25 hi.out hz0.out hz1.out hz2.out rfl (by decide) (.slice oa xs.length oc) xs.length (xs.map noV) rfl (OR.out.alloc _) ⟨u3.heap.size, 0, none⟩ 1 1 [.int .i64 no] rfl rfl (new_cells _ _ _) (by intro u hu; simp at hu; subst hu; rfl) (by unfold maxLen; omega) (by omega) (by have h1 := D.out.gr.size; have h2 := S2.out.only.size; have h3 := g3.out.size; simp; omega) (by decide) ?_; intro g' c' w1 ho1 hg1 hv1; have HO := Lib.hid ho1; have HG := Lib.hid hg1; clear ho1 hg1 hv1) | go_in)
            go_roundw; (case rel => exact ⟨v2, xs ++ [⟨no, p, true⟩], L2, D.out.next HLO.out S2.out P2.out HH2.out LO2.out g3.out H3.out OR.out HO.out HG.out⟩); (case measure => simp [lenOf]; omega)
          | false =>
            (have ta1 := fun w => ta_plain no p w); (rw [show itV ⟨no, p, false⟩ = .iface 118 (.agg #[.int .i64 no, .int .i64 p]) from rfl] at POP); go_wp2_with (first | (go_at_call 47; refine (len_any va (m + 1) vc wr).mono ?_; rintro r u1 ⟨rfl, rfl⟩; clear c1) | (go_at_call 48; refine POP.out.mono ?_; rintro r u2 ⟨rfl, v2, L2, H2, S2, HH2, M2, P2, LO2⟩) | (go_at_call 116; refine (place_any no p u2).mono ?_; rintro r u3 ⟨rfl, g3⟩; have OR := Lib.hid (ownsRow_keep (w' := u3) D.out.row (fun k e => (g3.out.block k (Nat.lt_of_lt_of_le (D.out.row.lt k e).2 S2.out.only.size) (by simp)).trans (S2.out.only.block k (D.out.row.lt k e).2 (D.out.hp.other D.out.row (by decide) (by decide) k e)))); have H3 := Lib.hid (H2.out.grown g3.out)) | (at_builtin; refine wpList_append_at _ rfl (.tmp 44) (.tmp 47) 25 rfl w.heap.size 3 i0 (.int .i64 0) 1 8 Try.underlying25 hi.out hz0.out hz1.out hz2.out rfl (by decide) (.slice oa xs.length oc) xs.length (xs.map noV) rfl (OR.out.alloc _) ⟨u3.heap.size, 0, none⟩ 1 1 [.int .i64 no] rfl rfl (new_cells _ _ _) (by intro u hu; simp at hu; subst hu; rfl) (by unfold maxLen; omega) (by omega) (by have h1 := D.out.gr.size; have h2 := S2.out.only.size; have h3 := g3.out.size; simp; omega) (by decide) ?_; intro g' c' w1 ho1 hg1 hv1; have HO := Lib.hid ho1; have HG := Lib.hid hg1; clear ho1 hg1 hv1) | go_in)
            go_roundw; (case rel => exact ⟨v2, xs ++ [⟨no, p, false⟩], L2, D.out.next HLO.out S2.out P2.out HH2.out LO2.out g3.out H3.out OR.out HO.out HG.out⟩); (case measure => simp [lenOf]; omega)
end Go.Proofs.Ytkidkhjpijjphaa.oq

/- Package opaque's own find, Check, Seen, Order. -/
namespace Go.Proofs.Ytkidkhjpijjphaa.oq
open Go Go.RowKit Go.Proofs.Ytkidkhjpijjphaa.base Go.Proofs.Ytkidkhjpijjphaa.hs Go.Proofs.Ytkidkhjpijjphaa.lg Go.Proofs.Ytkidkhjpijjphaa.md Go.Maps
set_option linter.unusedVariables false
set_option maxRecDepth 100000
set_option linter.unusedSimpArgs false

set_option maxHeartbeats 2000000 in
theorem start_any (a : Option Addr) (n c : Nat) (z : Nat → Int) (ta : Option Addr) (T tc : Nat) (w : World) (hz : IsNums .i64 w a n z) (hn : n ≤ 1000000) (hT : T ≤ 1000) :
    Calls Try.prog 42 #[.slice a n c, .slice ta T tc] w fun r w' => ∃ b F', r = .returned (.pointer (some ⟨b, 0, none⟩)) ∧ Hid (WkM w' F' b (.slice ta T tc) n z (0 : Nat) ⟨List.replicate T (-1), fun _ => []⟩ 0) ∧ Hid (∀ k, F' k → w.heap.size ≤ k ∧ k < w'.heap.size) ∧ Hid (w.grownBy w' none) := by
  have HZ := Lib.hid hz
  have hmm := @run_makeMap Try.prog
  have hx0 : (w.alloc (.cells #[.int .i64 (-1)] 3)).cell? ⟨w.heap.size, 0, none⟩ = some (.int .i64 (-1)) := (Blk.made w 3 #[.int .i64 (-1)]).cell 0
  have REP := Lib.hid (repeat_any T hT (w.alloc (.cells #[.int .i64 (-1)] 3)) w.heap.size hx0)
  have GA := Lib.hid (World.grownBy_alloc w (.cells #[.int .i64 (-1)] 3) none)
  clear hz hx0
  go_enter Try.func42, Try.ntmps42
  go_wp2_with (first
    | (go_at_call 57; refine REP.out.mono ?_; rintro r u1 ⟨g, rfl, g0, hb, g1⟩; have SRC := Lib.hid (HZ.out.grown (gb_trans GA.out g1.out)).src)
    | (at_builtin; refine append64 _ rfl (.const (.slice none 0 0)) (.tmp 12) rfl u1.heap.size _ 0 [] rfl (World.ownsRow_nil _ _ _ _) a n c (base.vals z n) rfl (by simp [base.vals]) SRC.out (one_nums _ _ _) (by omega) (by simp) ?_; intro b' c' u2 ho hg hv; have HO := Lib.hid ho; have HG := Lib.hid hg; clear ho hg hv)
    | go_in)
  go_ret
  have HO' := HO.out
  have HG' : u1.grownBy u2 none := HG.out
  simp only [Nat.zero_add, List.nil_append] at HO'
  have G01 := gb_trans GA.out g1.out
  have G02 : w.grownBy u2 none := gb_trans G01 HG'
  have hsz1 := G01.size
  have hsz2 := HG'.size
  have gb2 : Blk 3 u2 g ⟨List.replicate T (.int .i64 (-1))⟩ := hb.out.grown HG' (by simp)
  have hgl : g < u1.heap.size := hb.out.lt
  have G3 : u2.grownBy ((u2.alloc (.map #[] 0)).alloc (.cells #[.slice ta T tc, .slice (some ⟨g, 0, none⟩) T T, .slice b' n c', .int .i64 0, .map (some u2.heap.size)] 66)) none := (by repeat (first | exact gb_refl _ _ | refine gb_drewN ?_ _ | refine gb_drew ?_ | refine gb_alloc ?_ _))
  have g0' := g0.out
  simp only [World.size_alloc] at g0'
  refine ⟨u2.heap.size + 1, WkF (u2.heap.size + 1) (.slice (some ⟨g, 0, none⟩) T T) (.slice b' n c') u2.heap.size (fun _ => none), rfl, ⟨_, _, _, _, ⟨?_, ?_, ?_, ?_, fun _ _ => rfl, fun x u h => (by cases h), fun x y u v k h => (by cases h), fun x u k h => (by cases h)⟩, fun _ h => h⟩, ?_, gb_trans G02 G3⟩
  · have := Blk.made (u2.alloc (.map #[] 0)) 66 #[.slice ta T tc, .slice (some ⟨g, 0, none⟩) T T, .slice b' n c', .int .i64 0, .map (some u2.heap.size)]
    rwa [World.size_alloc] at this
  · refine ⟨by simp, .inr ⟨g, T, ⟨List.replicate T (.int .i64 (-1))⟩, by simp, Nat.zero_le _, gb2.grown G3 (by simp), by simp, by unfold maxLen; omega, by simp, ?_⟩⟩
    simp [intV]
  · have h1 := ownsRow_keep HO' (fun k e => G3.block k (HO'.lt k e).2 (by simp))
    refine ⟨h1.1, h1.2.imp id ?_⟩
    rintro ⟨q, cap, cur, e1, _, rest⟩
    exact ⟨q, cap, cur, e1, Nat.zero_le _, rest⟩
  · exact (MapG.made u2 Try.prog 144 two).grown (r := none) (World.grownBy_alloc (u2.alloc (.map #[] 0)) _ none) (by simp)
  · rintro k (rfl | e | e | rfl | ⟨x, u, e, _⟩)
    · exact ⟨by omega, by simp⟩
    · cases e
      show w.heap.size ≤ g ∧ g < _
      exact ⟨by omega, by simp; omega⟩
    · have := HO'.lt k e
      exact ⟨by omega, by simp; omega⟩
    · exact ⟨by omega, by simp; omega⟩
    · cases e

theorem evs_wf {w : World} {a : Option Addr} {len : Nat} {e : Evs} (h : IsEvs w a len e) : ∀ i, i < len → Ev.Wf (e i) := fun i hi => by
  obtain ⟨_, _, _, _, _, _, _, _, _, _, _, hw⟩ := h.at7 hi
  exact hw
theorem acs_wf {e : Evs} {len : Nat} (hw : ∀ i, i < len → Ev.Wf (e i)) : ∀ t ∈ tries e len, t.ac.length ≤ len ∧ ∀ a ∈ t.ac, AccWf a := fun t ht => by
  obtain ⟨b, _, _, rfl⟩ := (tries_mem e len t).1 ht
  refine ⟨hs.trAt_ac e b len, fun a ha => ?_⟩
  obtain ⟨p, _, _, h3, h4, h5, h6, _⟩ := (acs_ok e b len).1 a ha
  have := hw p h3
  exact ⟨h4 ▸ this.k, h5 ▸ this.ob, h6 ▸ this.va⟩

theorem seen_nums {w : World} {sa : Option Addr} {n sc : Nat} {l : List Int} (h : w.ownsRow 0 3 1 (.slice sa n sc) n (l.map intV)) (hl : l.length = n) : IsNums .i64 w sa n (fun i => l.getD i 0) := by
  refine IsNums.of_own (base := 0) (e := 3) (cap := sc) ?_
  have e : (List.range n).map (fun i => Value.int .i64 (l.getD i 0)) = l.map intV := by
    apply List.ext_getElem
    · simp [hl]
    · intro i h1 h2
      simp at h1 h2
      simp [intV, h2]
  rw [e]
  exact h
/-- Where each try is seen. -/
def Sees (e : Evs) (n len : Nat) (S : Nat → Nat → Int) (f : Nat → Int) : Prop := ∀ no t, (tries e len)[no]? = some t → SeenAt e n len len S t (f no)

set_option maxHeartbeats 2000000 in
theorem find_wrong (a1 : Option Addr) (n c1 : Nat) (a2 : Option Addr) (len cap : Nat) (e : Evs) (w : World) (hl : IsEvs w a2 len e) (hr : right e len = false) (hlen : len ≤ 1000) :
    Calls Try.prog 27 #[.slice a1 n c1, .slice a2 len cap] w fun r w' => r = .returned (.tuple #[.pointer none, .int .i64 0, .int .i64 3]) ∧ Hid (w.grownBy w' none) := by
  have RT := Lib.hid (right_any a2 len cap e w hl (by omega))
  rw [hr] at RT
  clear hl hr
  go_enter Try.func27, Try.ntmps27
  go_wp2_with (first | (go_at_call 41; refine RT.out.mono ?_; rintro r u1 ⟨rfl, g1⟩) | go_in)
  go_ret3
  exact ⟨rfl, g1⟩

set_option maxHeartbeats 4000000 in
theorem find_right (a1 : Option Addr) (n c1 : Nat) (z : Nat → Int) (a2 : Option Addr) (len cap : Nat) (e : Evs) (w : World) (hz : IsNums .i64 w a1 n z) (hzw : ∀ i, i < n → (Lit.int .i64 (z i)).wf = true) (hl : IsEvs w a2 len e) (hr : right e len = true) (hlen : len ≤ 1000) (hn : n ≤ 1000000) :
    Calls Try.prog 27 #[.slice a1 n c1, .slice a2 len cap] w fun r w' => ∃ f, Hid (Sees e n len (fun k => stAt z (cacs e len) k) f) ∧ Hid (w.grownBy w' none) ∧ ((∃ k : Nat, r = .returned (.tuple #[.pointer none, .int .i64 k, .int .i64 7]) ∧ Hid (k < (tries e len).length ∧ f k = -1 ∧ ∀ j, j < k → f j ≠ -1)) ∨
      (Hid (∀ j, j < (tries e len).length → f j ≠ -1) ∧ ∃ b ta tc ys sa sc, r = .returned (.tuple #[.pointer (some ⟨b, 0, none⟩), .int .i64 (-1), .int .i64 0]) ∧ Hid (ys.map Prod.fst = tries e len) ∧ Hid (TsAt w' ta ys) ∧ Hid (IsNums .i64 w' sa ys.length f) ∧ Hid (w'.cell? ⟨b, 0, none⟩ = some (.slice ta ys.length tc)) ∧ Hid (w'.cell? ⟨b, 1, none⟩ = some (.slice sa ys.length sc)))) := by
  have RT := Lib.hid (right_any a2 len cap e w hl (by omega))
  rw [hr] at RT
  have HZ := Lib.hid hz
  have HL := Lib.hid hl
  have HR := Lib.hid hr
  have HZW := Lib.hid hzw
  have HEW := Lib.hid (evs_wf hl)
  have HLEN := Lib.hid hlen
  have HN := Lib.hid hn
  clear hz hl hr hzw hlen hn
  go_enter Try.func27, Try.ntmps27
  go_wp2_with (first
    | (go_at_call 41; refine RT.out.mono ?_; rintro r u1 ⟨rfl, g1⟩)
    | (go_at_call 15; refine (tries_right u1 a2 len cap e (HL.out.grown g1.out) HR.out (by have := HLEN.out; omega)).mono ?_; rintro r u2 ⟨ta, tc, ys, rfl, it, tp, tw, g2⟩; have TY := Lib.hid (sorted_tries e tp.out tw.out); have TA := Lib.hid (TsAt.of_isTries it.out); have G2 := Lib.hid (gb_trans g1.out g2.out); have TL := Lib.hid (show ys.length = (tries e len).length by rw [← TY.out, List.length_map]); have TN := Lib.hid (tries_n e len); clear it tp tw g1 g2)
    | (go_at_call 42; refine (start_any a1 n c1 z ta ys.length tc u2 (HZ.out.grown G2.out) HN.out (by have := TL.out; have := TN.out; have := HLEN.out; omega)).mono ?_; rintro r u3 ⟨b, F, rfl, wk, fb, g3⟩; have OK0 : Hid (WkOk (ys.map Prod.fst) n 0 ⟨List.replicate ys.length (-1), fun _ => []⟩ 0) := Lib.hid ⟨by simp, by rw [List.length_map]; have := TL.out; have := TN.out; have := HLEN.out; omega, HN.out, by omega, fun x => Nat.le_refl _, by omega, fun t ht => by have h := acs_wf HEW.out t (TY.out ▸ ht); exact ⟨Nat.le_trans h.1 HLEN.out, h.2⟩⟩; have INV0 := Lib.hid (WkInv.start e n len (fun k => stAt z (cacs e len) k) HR.out); have THR := Lib.hid (through_any u2 u3 F b ta tc ys n z ⟨List.replicate ys.length (-1), fun _ => []⟩ a2 len cap e TA.out TY.out (HL.out.grown G2.out) g3.out (fun k hk => (fb.out k hk).1) wk.out (fun k hk => (fb.out k hk).2) OK0.out HR.out HLEN.out HZW.out (by rw [TL.out]; exact INV0.out)))
    | (go_at_call 43; refine THR.out.mono ?_; rintro r u4 ⟨rfl, F4, s4, N4, wk4, inv4, st4⟩; have G4 := Lib.hid (gb_only g3.out st4.out.only (fun k hk => (fb.out k hk).1)); obtain ⟨sv, vv, mb, rd, h4, _⟩ := wk4.out; obtain ⟨sa, sc, hsv⟩ := owns_slice h4.seen; have hsl : s4.seen.length = ys.length := (inv4.out.slen.trans TL.out.symm); rw [hsl] at hsv; have k1 : u4.cell? ⟨b, 1, none⟩ = some (.slice sa ys.length sc) := (by rw [← hsv]; exact h4.blk.cell 1); have bl4 := h4.blk.lt; have NS : Hid (IsNums .i64 u4 sa ys.length (fun i => s4.seen.getD i 0)) := Lib.hid (seen_nums (by rw [← hsv, ← hsl]; exact h4.seen) hsl); have BK := Lib.hid h4.blk; clear h4)
    | (go_at_call 44; refine (index_any sa ys.length sc (fun i => s4.seen.getD i 0) u4 NS.out (by have := TL.out; have := TN.out; have := HLEN.out; omega)).mono ?_)
    | go_in)
  rintro r u5 ⟨q, rfl, fn, g5⟩
  have SE : Hid (Sees e n len (fun k => stAt z (cacs e len) k) (fun i => s4.seen.getD i 0)) := Lib.hid (fun no t ht => by
    obtain ⟨q, hq, hs⟩ := inv4.out.at_ no t ht
    have : s4.seen.getD no 0 = q := by simp [List.getD, hq]
    show SeenAt e n len len _ t (s4.seen.getD no 0)
    rw [this]
    exact hs)
  have GE := Lib.hid (gb_trans (gb_trans G2.out G4.out) g5.out)
  rcases fn.out with ⟨rfl, hall⟩ | ⟨k, rfl, hk, hfk, hmin⟩
  · have HALL := Lib.hid hall
    clear hall
    go_wp2
    go_ret3
    exact ⟨_, SE, GE, .inr ⟨fun j hj => HALL.out j (by rw [TL.out]; exact hj), b, ta, tc, ys, sa, sc, rfl, TY, TA.out.grown (gb_trans G4.out g5.out), NS.out.grown g5.out, g5.out.cell (BK.out.cell 0) (by simp), g5.out.cell k1 (by simp)⟩⟩
  · have HK := Lib.hid (show k < (tries e len).length ∧ s4.seen.getD k 0 = -1 ∧ ∀ j, j < k → s4.seen.getD j 0 ≠ -1 from ⟨by rw [← TL.out]; exact hk, hfk, hmin⟩)
    clear hk hfk hmin
    have hk0 : (0 : Int) ≤ (k : Int) := by omega
    go_wp2
    go_ret3
    exact ⟨_, SE, GE, .inl ⟨k, rfl, HK⟩⟩

set_option maxHeartbeats 1000000 in
theorem check_right (a1 : Option Addr) (n c1 : Nat) (z : Nat → Int) (a2 : Option Addr) (len cap : Nat) (e : Evs) (w : World) (hz : IsNums .i64 w a1 n z) (hzw : ∀ i, i < n → (Lit.int .i64 (z i)).wf = true) (hl : IsEvs w a2 len e) (hr : right e len = true) (hlen : len ≤ 1000) (hn : n ≤ 1000000) :
    Calls Try.prog 10 #[.slice a1 n c1, .slice a2 len cap] w fun r w' => ∃ f, Hid (Sees e n len (fun k => stAt z (cacs e len) k) f) ∧ Hid (w.grownBy w' none) ∧ ((∃ k : Nat, r = .returned (.tuple #[.int .i64 k, .int .i64 7]) ∧ Hid (k < (tries e len).length ∧ f k = -1 ∧ ∀ j, j < k → f j ≠ -1)) ∨ (Hid (∀ j, j < (tries e len).length → f j ≠ -1) ∧ r = .returned (.tuple #[.int .i64 (-1), .int .i64 0]))) := by
  have HZ := Lib.hid hz; have HZW := Lib.hid hzw; have HL := Lib.hid hl; have HR := Lib.hid hr; have HLEN := Lib.hid hlen; have HN := Lib.hid hn; clear hz hzw hl hr hlen hn
  go_enter Try.func10, Try.ntmps10
  go_wp2_with fail
  refine (find_right a1 n c1 z a2 len cap e w HZ.out HZW.out HL.out HR.out HLEN.out HN.out).mono ?_
  rintro r u ⟨f, h1, h2, ⟨k, rfl, h3⟩ | ⟨h3, b, ta, tc, ys, sa, sc, rfl, _⟩⟩
  · go_wp2
    go_ret2
    exact ⟨f, h1, h2, .inl ⟨k, rfl, h3⟩⟩
  · go_wp2
    go_ret2
    exact ⟨f, h1, h2, .inr ⟨h3, rfl⟩⟩

set_option maxHeartbeats 1000000 in
theorem check_wrong (a1 : Option Addr) (n c1 : Nat) (a2 : Option Addr) (len cap : Nat) (e : Evs) (w : World) (hl : IsEvs w a2 len e) (hr : right e len = false) (hlen : len ≤ 1000) :
    Calls Try.prog 10 #[.slice a1 n c1, .slice a2 len cap] w fun r w' => r = .returned (.tuple #[.int .i64 0, .int .i64 3]) ∧ Hid (w.grownBy w' none) := by
  have H := Lib.hid (find_wrong a1 n c1 a2 len cap e w hl hr hlen)
  clear hl hr
  go_enter Try.func10, Try.ntmps10
  go_wp2_with (first | (go_at_call 27; refine H.out.mono ?_; rintro r u ⟨rfl, g⟩) | go_in)
  go_ret2
  exact ⟨rfl, g⟩

set_option maxHeartbeats 1000000 in
theorem seen_right (a1 : Option Addr) (n c1 : Nat) (z : Nat → Int) (a2 : Option Addr) (len cap : Nat) (e : Evs) (w : World) (hz : IsNums .i64 w a1 n z) (hzw : ∀ i, i < n → (Lit.int .i64 (z i)).wf = true) (hl : IsEvs w a2 len e) (hr : right e len = true) (hlen : len ≤ 1000) (hn : n ≤ 1000000) :
    Calls Try.prog 11 #[.slice a1 n c1, .slice a2 len cap] w fun r w' => ∃ f, Hid (Sees e n len (fun k => stAt z (cacs e len) k) f) ∧ Hid (w.grownBy w' none) ∧ ((∃ k : Nat, r = .returned (.tuple #[.slice none 0 0, .int .i64 7]) ∧ Hid (k < (tries e len).length ∧ f k = -1 ∧ ∀ j, j < k → f j ≠ -1)) ∨ (Hid (∀ j, j < (tries e len).length → f j ≠ -1) ∧ ∃ sa sc, r = .returned (.tuple #[.slice sa (tries e len).length sc, .int .i64 0]) ∧ Hid (IsNums .i64 w' sa (tries e len).length f))) := by
  have HZ := Lib.hid hz; have HZW := Lib.hid hzw; have HL := Lib.hid hl; have HR := Lib.hid hr; have HLEN := Lib.hid hlen; have HN := Lib.hid hn; clear hz hzw hl hr hlen hn
  go_enter Try.func11, Try.ntmps11
  go_wp2_with fail
  refine (find_right a1 n c1 z a2 len cap e w HZ.out HZW.out HL.out HR.out HLEN.out HN.out).mono ?_
  rintro r u ⟨f, h1, h2, ⟨k, rfl, h3⟩ | ⟨h3, b, ta, tc, ys, sa, sc, rfl, hy, ht, hs, k0, k1⟩⟩
  · go_wp2
    go_ret2
    exact ⟨f, h1, h2, .inl ⟨k, rfl, h3⟩⟩
  · have hyl : ys.length = (tries e len).length := by rw [← hy.out, List.length_map]
    rw [hyl] at hs k1
    have c1' := k1.out
    have bl := World.block_lt_of_cell? _ _ c1'
    clear k0 k1
    go_wp2
    go_ret2
    exact ⟨f, h1, h2, .inr ⟨h3, sa, sc, rfl, hs⟩⟩

set_option maxHeartbeats 1000000 in
theorem seen_wrong (a1 : Option Addr) (n c1 : Nat) (a2 : Option Addr) (len cap : Nat) (e : Evs) (w : World) (hl : IsEvs w a2 len e) (hr : right e len = false) (hlen : len ≤ 1000) :
    Calls Try.prog 11 #[.slice a1 n c1, .slice a2 len cap] w fun r w' => r = .returned (.tuple #[.slice none 0 0, .int .i64 3]) ∧ Hid (w.grownBy w' none) := by
  have H := Lib.hid (find_wrong a1 n c1 a2 len cap e w hl hr hlen)
  clear hl hr
  go_enter Try.func11, Try.ntmps11
  go_wp2_with (first | (go_at_call 27; refine H.out.mono ?_; rintro r u ⟨rfl, g⟩) | go_in)
  go_ret2
  exact ⟨rfl, g⟩

theorem isp_le {f : Nat → Bool} {lo hi : Nat} {q : Int} (h : IsP f lo hi q) : q ≤ (hi : Int) := by
  rcases h with ⟨rfl, _⟩ | ⟨p, rfl, _, h, _⟩ <;> omega
theorem sees_le {e : Evs} {n len : Nat} {S : Nat → Nat → Int} {f : Nat → Int} (h : Sees e n len S f) (hr : right e len = true) {no : Nat} (hno : no < (tries e len).length) : f no ≤ (len : Int) := by
  have hs := h no _ (List.getElem?_eq_getElem hno)
  unfold SeenAt at hs
  split at hs
  · rw [hs]
    split
    · next hc =>
      have h1 := before_bound e (tries e len)[no].en.toNat
      omega
    · omega
  · split at hs
    · have h1 := isp_le hs
      have h2 := before_bound e (min len (endOf len (tries e len)[no]))
      have h3 : min len (endOf len (tries e len)[no]) ≤ len := Nat.min_le_left _ _
      omega
    · omega
theorem sees_ge {e : Evs} {n len : Nat} {S : Nat → Nat → Int} {f : Nat → Int} (h : Sees e n len S f) {no : Nat} (hno : no < (tries e len).length) : -1 ≤ f no := by
  have hs := h no _ (List.getElem?_eq_getElem hno)
  unfold SeenAt at hs
  split at hs
  · rw [hs]
    split <;> omega
  · split at hs
    · rcases hs with ⟨h, _⟩ | ⟨p, h, _⟩ <;> omega
    · omega

set_option maxHeartbeats 1000000 in
theorem order_right (a1 : Option Addr) (n c1 : Nat) (z : Nat → Int) (a2 : Option Addr) (len cap : Nat) (e : Evs) (w : World) (hz : IsNums .i64 w a1 n z) (hzw : ∀ i, i < n → (Lit.int .i64 (z i)).wf = true) (hl : IsEvs w a2 len e) (hr : right e len = true) (hlen : len ≤ 1000) (hn : n ≤ 1000000) :
    Calls Try.prog 12 #[.slice a1 n c1, .slice a2 len cap] w fun r w' => ∃ f, Hid (Sees e n len (fun k => stAt z (cacs e len) k) f) ∧ Hid (w.grownBy w' none) ∧ ((∃ k : Nat, r = .returned (.tuple #[.slice none 0 0, .int .i64 7]) ∧ Hid (k < (tries e len).length ∧ f k = -1 ∧ ∀ j, j < k → f j ≠ -1)) ∨ (Hid (∀ j, j < (tries e len).length → f j ≠ -1) ∧ ∃ ov xs, r = .returned (.tuple #[ov, .int .i64 0]) ∧ Hid (Ordered (tries e len) f xs) ∧ Hid (w'.ownsRow 0 3 1 ov xs.length (xs.map noV)))) := by
  have HZ := Lib.hid hz; have HZW := Lib.hid hzw; have HL := Lib.hid hl; have HR := Lib.hid hr; have HLEN := Lib.hid hlen; have HN := Lib.hid hn; clear hz hzw hl hr hlen hn
  have TN := Lib.hid (tries_n e len)
  go_enter Try.func12, Try.ntmps12
  go_wp2_with fail
  refine (find_right a1 n c1 z a2 len cap e w HZ.out HZW.out HL.out HR.out HLEN.out HN.out).mono ?_
  rintro r u ⟨f, h1, h2, ⟨k, rfl, h3⟩ | ⟨h3, b, ta, tc, ys, sa, sc, rfl, hy, ht, hs, k0, k1⟩⟩
  · go_wp2
    go_ret2
    exact ⟨f, h1, h2, .inl ⟨k, rfl, h3⟩⟩
  · have hyl : ys.length = (tries e len).length := by rw [← hy.out, List.length_map]
    have hf : ∀ i, i < ys.length → 0 ≤ f i ∧ f i ≤ 1000000 := fun i hi => by
      have a := sees_ge h1.out (show i < (tries e len).length by omega)
      have b := sees_le h1.out HR.out (show i < (tries e len).length by omega)
      have c := h3.out i (by omega)
      have d := HLEN.out
      omega
    have ORD := Lib.hid (fun u' (g : Hid (u.grownBy u' none)) => ordered_any u' ta tc ys sa sc f (ht.out.grown g.out) (hs.out.grown g.out) hf (by have := TN.out; have := HLEN.out; omega))
    have c0' := k0.out
    have c1' := k1.out
    have bl := World.block_lt_of_cell? _ _ c1'
    clear k0 k1 hf hyl
    go_wp2_with fail
    have K0 : Hid (u.grownBy u.drew none) := Lib.hid (gb_drew (gb_refl u none))
    go_region_held3 (fun w' => Hid (u.grownBy w' none) ∧ w'.cell? ⟨b, 0, none⟩ = some (.slice ta ys.length tc) ∧ w'.cell? ⟨b, 1, none⟩ = some (.slice sa ys.length sc)) (go_keep) (first
      | (go_at_call 28; refine (ORD.out _ (by assumption)).mono ?_; rintro r u5 ⟨ov, xs, rfl, ho, hr5, g5⟩; have K5 : Hid (u.grownBy u5 none) := Lib.hid (gb_trans (by refine Hid.out ?_; assumption) g5.out); have x5 := K5.out.cell c0' (by simp); have y5 := K5.out.cell c1' (by simp)))
    go_wp2
    go_ret2
    refine ⟨f, h1, gb_trans h2.out K5.out, .inr ⟨h3, ov, xs, rfl, ?_, ?_⟩⟩
    · have := ho.out
      rw [hy.out] at this
      exact this
    · refine ⟨hr5.out.1, hr5.out.2.imp id ?_⟩
      rintro ⟨q, cap, cur, e1, _, rest⟩
      exact ⟨q, cap, cur, e1, Nat.zero_le _, rest⟩

set_option maxHeartbeats 1000000 in
theorem order_wrong (a1 : Option Addr) (n c1 : Nat) (a2 : Option Addr) (len cap : Nat) (e : Evs) (w : World) (hl : IsEvs w a2 len e) (hr : right e len = false) (hlen : len ≤ 1000) :
    Calls Try.prog 12 #[.slice a1 n c1, .slice a2 len cap] w fun r w' => r = .returned (.tuple #[.slice none 0 0, .int .i64 3]) ∧ Hid (w.grownBy w' none) := by
  have H := Lib.hid (find_wrong a1 n c1 a2 len cap e w hl hr hlen)
  clear hl hr
  go_enter Try.func12, Try.ntmps12
  go_wp2_with (first | (go_at_call 27; refine H.out.mono ?_; rintro r u ⟨rfl, g⟩) | go_in)
  go_ret2
  exact ⟨rfl, g⟩
end Go.Proofs.Ytkidkhjpijjphaa.oq

/- The document's own comparison of numbers: quarrelref01.Ints. -/
namespace Go.Proofs.Ytkidkhjpijjphaa.oq
open Go Go.RowKit Go.Proofs.Ytkidkhjpijjphaa.base Go.Proofs.Ytkidkhjpijjphaa.lg Go.Proofs.Ytkidkhjpijjphaa.md
set_option linter.unusedVariables false
set_option linter.unusedSimpArgs false

set_option maxHeartbeats 1000000 in
theorem ints_any (a b : Option Addr) (n m ca cb : Nat) (f g : Nat → Int) (w : World) (ha : IsNums .i64 w a n f) (hb : IsNums .i64 w b m g) (hm : n ≤ 100000) :
    Calls Try.prog 13 #[.slice a n ca, .slice b m cb] w fun e w' => e = .returned (.bool (decide (n = m) && eqTo f g n)) ∧ Hid (w.grownBy w' none) := by
  have HA := Lib.hid ha
  have HB := Lib.hid hb
  clear ha hb
  by_cases hnm : n = m
  · subst hnm
    rw [show (decide (n = n) && eqTo f g n) = eqTo f g n by simp]
    go_enter Try.func13, Try.ntmps13
    go_wp2_with fail
    go_loopw [5] (fun i wr => ∃ k : Nat, k ≤ n ∧ i = .int .i64 k ∧ Hid (eqTo f g k = true) ∧ Hid (w.grownBy wr none)) (fun i _ => (n - intOf i).toNat)
    case atStart => exact ⟨0, by omega, rfl, rfl, gb_refl _ _⟩
    case round =>
      obtain ⟨k, hk, rfl, HE, G⟩ := hrel
      by_cases hlt : k < n
      · obtain ⟨b1, o1, rfl, hb1, d1⟩ := (HA.out.grown G.out).at1 hlt
        obtain ⟨b2, o2, rfl, hb2, d2⟩ := (HB.out.grown G.out).at1 hlt
        have hlt' : (k : Int) < (n : Int) := by omega
        by_cases hfg : f k = g k
        · have HE1 := Lib.hid (show eqTo f g (k + 1) = true by rw [eqTo, HE.out, hfg]; simp)
          rw [← hfg] at d2
          clear hfg
          generalize f k = x at *
          go_wp2_with fail
          go_quiet (fail)
          go_wp2
          go_roundw
          case rel => exact ⟨k + 1, by omega, by go_num, HE1, by first | exact gb_drewN G.out _ | exact gb_drew (gb_drewN G.out _)⟩
          case measure => simp [intOf]; omega
        · have HE1 := Lib.hid (eqTo_bad hlt hfg)
          have hne : (f k != g k) = true := by simp [hfg]
          clear hfg
          generalize f k = x at *
          generalize g k = y at *
          go_wp2_with fail
          go_quiet (fail)
          go_wp2
          go_ret
          exact ⟨by rw [HE1.out]; rfl, by first | exact gb_drewN G.out _ | exact gb_drew (gb_drewN G.out _)⟩
      · obtain rfl : k = n := by omega
        go_wp2
        go_ret
        exact ⟨by rw [HE.out]; rfl, G⟩
  · have hne : ((n : Int) != (m : Int)) = true := by simp; omega
    rw [show (decide (n = m) && eqTo f g n) = false by simp [hnm]]
    clear hnm
    go_enter Try.func13, Try.ntmps13
    go_wp2
    go_ret
    exact ⟨rfl, gb_refl _ _⟩

theorem ints_yes (a b : Option Addr) (n ca cb : Nat) (f : Nat → Int) (w : World) (ha : IsNums .i64 w a n f) (hb : IsNums .i64 w b n f) (hm : n ≤ 100000) :
    Calls Try.prog 13 #[.slice a n ca, .slice b n cb] w fun e w' => e = .returned (.bool true) ∧ Hid (w.grownBy w' none) := by
  have h := ints_any a b n n ca cb f f w ha hb hm
  rwa [show (decide (n = n) && eqTo f f n) = true by simp [eqTo_self]] at h
end Go.Proofs.Ytkidkhjpijjphaa.oq

/- The document's example of chapter 19. -/
namespace Go.Proofs.Ytkidkhjpijjphaa.oq
open Go Go.RowKit Go.Proofs.Ytkidkhjpijjphaa.base Go.Proofs.Ytkidkhjpijjphaa.hs Go.Proofs.Ytkidkhjpijjphaa.lg Go.Proofs.Ytkidkhjpijjphaa.md Go.Maps
set_option linter.unusedVariables false
set_option maxRecDepth 100000
set_option linter.unusedSimpArgs false

def exO : Evs := fun i => match i with
  | 0 => ⟨1, 0, 0, 1, 0, 0, 0⟩
  | 1 => ⟨2, 0, 0, 1, 0, 5, 0⟩
  | 2 => ⟨1, 1, 0, 1, 0, 0, 0⟩
  | 3 => ⟨3, 1, 0, 1, 0, 7, 0⟩
  | 4 => ⟨5, 1, 0, 1, 0, 0, 0⟩
  | _ => ⟨6, 0, 0, 1, 0, 0, 1⟩
theorem exO_right : right exO 6 = true := by decide
theorem exO_at {w : World} {b : Nat} (B : Blk 51 w b #[.int .i64 1, .int .i64 0, .int .i64 0, .int .i64 1, .int .i64 0, .int .i64 0, .int .i64 0, .int .i64 2, .int .i64 0, .int .i64 0, .int .i64 1, .int .i64 0, .int .i64 5, .int .i64 0, .int .i64 1, .int .i64 1, .int .i64 0, .int .i64 1, .int .i64 0, .int .i64 0, .int .i64 0, .int .i64 3, .int .i64 1, .int .i64 0, .int .i64 1, .int .i64 0, .int .i64 7, .int .i64 0, .int .i64 5, .int .i64 1, .int .i64 0, .int .i64 1, .int .i64 0, .int .i64 0, .int .i64 0, .int .i64 6, .int .i64 0, .int .i64 0, .int .i64 1, .int .i64 0, .int .i64 0, .int .i64 1]) : IsEvs w (some ⟨b, 0, none⟩) 6 exO := by
  refine .inr ⟨b, 0, rfl, B.lt, fun i hi => ⟨fun j hj => ?_, ?_⟩⟩
  · rw [B.cell]
    match i, hi, j, hj with
    | 0, _, 0, _ => rfl
    | 0, _, 1, _ => rfl
    | 0, _, 2, _ => rfl
    | 0, _, 3, _ => rfl
    | 0, _, 4, _ => rfl
    | 0, _, 5, _ => rfl
    | 0, _, 6, _ => rfl
    | 1, _, 0, _ => rfl
    | 1, _, 1, _ => rfl
    | 1, _, 2, _ => rfl
    | 1, _, 3, _ => rfl
    | 1, _, 4, _ => rfl
    | 1, _, 5, _ => rfl
    | 1, _, 6, _ => rfl
    | 2, _, 0, _ => rfl
    | 2, _, 1, _ => rfl
    | 2, _, 2, _ => rfl
    | 2, _, 3, _ => rfl
    | 2, _, 4, _ => rfl
    | 2, _, 5, _ => rfl
    | 2, _, 6, _ => rfl
    | 3, _, 0, _ => rfl
    | 3, _, 1, _ => rfl
    | 3, _, 2, _ => rfl
    | 3, _, 3, _ => rfl
    | 3, _, 4, _ => rfl
    | 3, _, 5, _ => rfl
    | 3, _, 6, _ => rfl
    | 4, _, 0, _ => rfl
    | 4, _, 1, _ => rfl
    | 4, _, 2, _ => rfl
    | 4, _, 3, _ => rfl
    | 4, _, 4, _ => rfl
    | 4, _, 5, _ => rfl
    | 4, _, 6, _ => rfl
    | 5, _, 0, _ => rfl
    | 5, _, 1, _ => rfl
    | 5, _, 2, _ => rfl
    | 5, _, 3, _ => rfl
    | 5, _, 4, _ => rfl
    | 5, _, 5, _ => rfl
    | 5, _, 6, _ => rfl
  · match i, hi with
    | 0, _ => exact ⟨by decide, by decide, by decide, by decide, by decide, by decide, by decide⟩
    | 1, _ => exact ⟨by decide, by decide, by decide, by decide, by decide, by decide, by decide⟩
    | 2, _ => exact ⟨by decide, by decide, by decide, by decide, by decide, by decide, by decide⟩
    | 3, _ => exact ⟨by decide, by decide, by decide, by decide, by decide, by decide, by decide⟩
    | 4, _ => exact ⟨by decide, by decide, by decide, by decide, by decide, by decide, by decide⟩
    | 5, _ => exact ⟨by decide, by decide, by decide, by decide, by decide, by decide, by decide⟩
theorem one_at {w : World} {b : Nat} {x : Int} (B : Blk 2 w b #[.int .i64 x]) : IsNums .i64 w (some ⟨b, 0, none⟩) 1 (fun _ => x) := by
  refine .inr ⟨b, 0, rfl, B.lt, fun i hi => ?_⟩
  obtain rfl : i = 0 := by omega
  exact B.cell 0
theorem two_at {w : World} {b : Nat} {x y : Int} (B : Blk 3 w b #[.int .i64 x, .int .i64 y]) : IsNums .i64 w (some ⟨b, 0, none⟩) 2 (fun i => if i = 0 then x else y) := by
  refine .inr ⟨b, 0, rfl, B.lt, fun i hi => ?_⟩
  match i, hi with
  | 0, _ => exact B.cell 0
  | 1, _ => exact B.cell 1
theorem exO_tries : tries exO 6 = [⟨0, 0, 1, 0, 0, 5, 1, false, [⟨1, 2, 0, 5, false, false⟩]⟩, ⟨1, 0, 1, 0, 2, 4, 0, true, [⟨3, 3, 0, 7, false, false⟩]⟩] := by decide
theorem exO_sees {f : Nat → Int} (h : Sees exO 1 6 (fun k => stAt (fun _ => 5) (cacs exO 6) k) f) : f 0 = 0 ∧ f 1 = 0 := by
  constructor
  · have h0 := h 0 _ (by rw [exO_tries]; rfl)
    have h1 : SeenAt exO 1 6 6 (fun k => stAt (fun _ => 5) (cacs exO 6) k) ⟨0, 0, 1, 0, 0, 5, 1, false, [⟨1, 2, 0, 5, false, false⟩]⟩ 0 := by
      unfold SeenAt
      rw [if_neg (by decide), if_pos (by decide)]
      exact .inr ⟨0, rfl, by decide, by decide, by rfl, fun k h1 h2 => by omega⟩
    unfold SeenAt at h0 h1
    rw [if_neg (by decide), if_pos (by decide)] at h0 h1
    exact h0.one h1
  · have h0 := h 1 _ (by rw [exO_tries]; rfl)
    unfold SeenAt at h0
    rw [if_pos (by rfl), if_pos ⟨by decide, by rfl⟩] at h0
    rw [h0]
    rfl

set_option maxHeartbeats 2000000 in
theorem alive_any (w : World) : Calls Try.prog 8 #[] w fun r w' => r = .returned (.bool true) ∧ Hid (w.grownBy w' none) := by
  have BX := Lib.hid (Blk.made w 51 #[.int .i64 1, .int .i64 0, .int .i64 0, .int .i64 1, .int .i64 0, .int .i64 0, .int .i64 0, .int .i64 2, .int .i64 0, .int .i64 0, .int .i64 1, .int .i64 0, .int .i64 5, .int .i64 0, .int .i64 1, .int .i64 1, .int .i64 0, .int .i64 1, .int .i64 0, .int .i64 0, .int .i64 0, .int .i64 3, .int .i64 1, .int .i64 0, .int .i64 1, .int .i64 0, .int .i64 7, .int .i64 0, .int .i64 5, .int .i64 1, .int .i64 0, .int .i64 1, .int .i64 0, .int .i64 0, .int .i64 0, .int .i64 6, .int .i64 0, .int .i64 0, .int .i64 1, .int .i64 0, .int .i64 0, .int .i64 1])
  have GA := Lib.hid (World.grownBy_alloc w (.cells #[.int .i64 1, .int .i64 0, .int .i64 0, .int .i64 1, .int .i64 0, .int .i64 0, .int .i64 0, .int .i64 2, .int .i64 0, .int .i64 0, .int .i64 1, .int .i64 0, .int .i64 5, .int .i64 0, .int .i64 1, .int .i64 1, .int .i64 0, .int .i64 1, .int .i64 0, .int .i64 0, .int .i64 0, .int .i64 3, .int .i64 1, .int .i64 0, .int .i64 1, .int .i64 0, .int .i64 7, .int .i64 0, .int .i64 5, .int .i64 1, .int .i64 0, .int .i64 1, .int .i64 0, .int .i64 0, .int .i64 0, .int .i64 6, .int .i64 0, .int .i64 0, .int .i64 1, .int .i64 0, .int .i64 0, .int .i64 1] 51) none)
  have BY := Lib.hid (Blk.made (w.alloc (.cells #[.int .i64 1, .int .i64 0, .int .i64 0, .int .i64 1, .int .i64 0, .int .i64 0, .int .i64 0, .int .i64 2, .int .i64 0, .int .i64 0, .int .i64 1, .int .i64 0, .int .i64 5, .int .i64 0, .int .i64 1, .int .i64 1, .int .i64 0, .int .i64 1, .int .i64 0, .int .i64 0, .int .i64 0, .int .i64 3, .int .i64 1, .int .i64 0, .int .i64 1, .int .i64 0, .int .i64 7, .int .i64 0, .int .i64 5, .int .i64 1, .int .i64 0, .int .i64 1, .int .i64 0, .int .i64 0, .int .i64 0, .int .i64 6, .int .i64 0, .int .i64 0, .int .i64 1, .int .i64 0, .int .i64 0, .int .i64 1] 51)) 2 #[.int .i64 5])
  have BX2 := Lib.hid (BX.out.alloc (.cells #[.int .i64 5] 2))
  have GB := Lib.hid (gb_alloc GA.out (.cells #[.int .i64 5] 2))
  have HS := Lib.hid (seen_right (some ⟨w.heap.size + 1, 0, none⟩) 1 1 (fun _ => 5) (some ⟨w.heap.size, 0, none⟩) 6 6 exO _ (by have h := one_at BY.out; rwa [World.size_alloc] at h) (fun _ _ => by decide) (exO_at BX2.out) exO_right (by omega) (by omega))
  clear BX BY GA
  go_enter Try.func8, Try.ntmps8
  go_wp2_with fail
  refine HS.out.mono ?_
  rintro r u1 ⟨f, hf, g1, ⟨k, rfl, hk⟩ | ⟨hall, sa, sc, rfl, hs⟩⟩
  · exfalso
    have h1 := exO_sees hf.out
    have h2 := hk.out
    rw [exO_tries] at h2
    obtain ⟨a, b, _⟩ := h2
    match k, a, b with
    | 0, _, b => rw [h1.1] at b; cases b
    | 1, _, b => rw [h1.2] at b; cases b
  have NS := Lib.hid (show IsNums .i64 u1 sa 2 f from hs.out)
  have HF := Lib.hid (exO_sees hf.out)
  have G1 := Lib.hid (gb_trans GB.out g1.out)
  have EV1 := Lib.hid ((exO_at BX2.out).grown g1.out)
  rw [show (tries exO 6).length = 2 by rw [exO_tries]; rfl]
  clear hs hf hall g1 BX2 GB HS
  have BY := Lib.hid (Blk.made u1 2 #[.int .i64 5])
  have GC := Lib.hid (World.grownBy_alloc u1 (.cells #[.int .i64 5] 2) none)
  have HO := Lib.hid (order_right (some ⟨u1.heap.size, 0, none⟩) 1 1 (fun _ => 5) (some ⟨w.heap.size, 0, none⟩) 6 6 exO _ (one_at BY.out) (fun _ _ => by decide) (EV1.out.grown GC.out) exO_right (by omega) (by omega))
  go_wp2_with fail
  refine HO.out.mono ?_
  rintro r u2 ⟨f2, hf2, g2, ⟨k, rfl, hk⟩ | ⟨hall, ov, xs, rfl, ho, hrow⟩⟩
  · exfalso
    have h1 := exO_sees hf2.out
    have h2 := hk.out
    rw [exO_tries] at h2
    obtain ⟨a, b, _⟩ := h2
    match k, a, b with
    | 0, _, b => rw [h1.1] at b; cases b
    | 1, _, b => rw [h1.2] at b; cases b
  have hxs : xs = [(⟨0, 0, false⟩ : It), (⟨1, 0, true⟩ : It)] := by
    have h1 := exO_sees hf2.out
    refine ho.out.one ⟨?_, ?_⟩
    · rw [exO_tries]
      show List.Perm _ [(⟨0, f2 0, false⟩ : It), (⟨1, f2 1, true⟩ : It)]
      rw [h1.1, h1.2]
    · refine List.Pairwise.cons (fun y hy => ?_) (List.Pairwise.cons (fun y hy => by simp at hy) List.Pairwise.nil)
      have : y = ⟨1, 0, true⟩ := by simpa using hy
      rw [this]
      unfold It.le It.rk
      simp
  subst hxs
  obtain ⟨oa, oc, hov⟩ := owns_slice hrow.out
  subst hov
  have NO := Lib.hid (show IsNums .i64 u2 oa 2 (fun i => if i = 0 then 0 else 1) from by
    have h := seen_nums (l := [0, 1]) (n := 2) (sa := oa) (sc := oc) (w := u2) hrow.out rfl
    exact h.congr (fun i hi => by match i, hi with | 0, _ => rfl | 1, _ => rfl))
  have NS2 := Lib.hid ((NS.out.grown (gb_trans GC.out g2.out)).congr (f' := fun i => if i = 0 then (0 : Int) else 0) (fun i hi => by match i, hi with | 0, _ => exact HF.out.1 | 1, _ => exact HF.out.2))
  have G2 := Lib.hid (gb_trans (gb_trans G1.out GC.out) g2.out)
  clear ho hrow hf2 hall g2 NS HF G1 EV1 BY GC HO
  have B3 := Lib.hid (Blk.made u2 3 #[.int .i64 0, .int .i64 0])
  have G3 := Lib.hid (World.grownBy_alloc u2 (.cells #[.int .i64 0, .int .i64 0] 3) none)
  go_wp2_with fail
  refine (ints_yes _ _ 2 _ _ _ _ (NS2.out.grown G3.out) (two_at B3.out) (by omega)).mono ?_
  rintro r u3 ⟨rfl, g3⟩
  have N3 := Lib.hid (NO.out.grown (gb_trans G3.out g3.out))
  have B4 := Lib.hid (Blk.made u3 3 #[.int .i64 0, .int .i64 1])
  have G4 := Lib.hid (World.grownBy_alloc u3 (.cells #[.int .i64 0, .int .i64 1] 3) none)
  have GE := Lib.hid (gb_trans (gb_trans G2.out G3.out) g3.out)
  clear B3 NS2 NO g3 G3 G2
  go_wp2_with fail
  refine (ints_yes _ _ 2 _ _ _ _ (N3.out.grown G4.out) (two_at B4.out) (by omega)).mono ?_
  rintro r u4 ⟨rfl, g4⟩
  go_wp2
  go_ret
  exact ⟨rfl, gb_trans (gb_trans GE.out G4.out) g4.out⟩
end Go.Proofs.Ytkidkhjpijjphaa.oq

/- Package hist's Before; the document's example. -/
namespace Go.Proofs.Ytkidkhjpijjphaa.hs
open Go Go.RowKit Go.Proofs.Ytkidkhjpijjphaa.base Go.Maps
set_option linter.unusedVariables false
set_option maxRecDepth 100000

theorem before_le (e : Evs) : ∀ n, before e n ≤ n
  | 0 => Nat.le_refl _
  | n + 1 => by have := before_le e n; unfold before; split <;> omega

set_option maxHeartbeats 1000000 in
theorem before_any (w : World) (a : Option Addr) (len cap : Nat) (e : Evs) (pl : Int) (hw : (Lit.int .i64 pl).wf = true) (hl : IsEvs w a len e) (hlc : len ≤ cap) (hlen : len ≤ 1000000) :
    Calls Try.prog 21 #[.slice a len cap, .int .i64 pl] w fun r w' => r = .returned (.int .i64 (before e (min len pl.toNat))) ∧ Hid (w.grownBy w' none) := by
  have HL := Lib.hid hl
  obtain ⟨m, hm⟩ : ∃ m, m = min len pl.toNat := ⟨_, rfl⟩
  rw [← hm]
  have hml : m ≤ len := by omega
  have HM := Lib.hid hm
  clear hm
  have hc2 : (len : Int) ≤ (cap : Int) := by omega
  have hl2 : (len : Int) ≤ 1000000 := by omega
  go_enter Try.func21, Try.ntmps21
  go_wp2_with fail
  have hm := HM.out
  have e1 : min (max pl 0) (len : Int) = (m : Int) := by omega
  have e2 : max (m : Int) 0 = (m : Int) := by omega
  simp only [e1, e2, Int.toNat_natCast]
  have hm2 : (m : Int) ≤ 1000000 := by omega
  clear e1 e2 hm hl
  go_loopw [5, 16] (fun nv iv wr => ∃ k : Nat, k ≤ m ∧ iv = .int .i64 k ∧ nv = .int .i64 (before e k) ∧ Hid (w.grownBy wr none)) (fun _ iv _ => (m - intOf iv).toNat)
  case atStart => exact ⟨0, by omega, rfl, rfl, gb_refl _ _⟩
  case round =>
    obtain ⟨k, hk, rfl, rfl, G⟩ := hrel
    have hbk := before_le e k
    by_cases hlt : k < m
    · obtain ⟨b0, off, rfl, hb0, c0, c1, c2, c3, c4, c5, c6, we⟩ := (HL.out.grown G.out).at7 (show k < len by omega)
      have hlt' : (k : Int) < (m : Int) := by omega
      have hk2 : (k : Int) < 1000000 := by omega
      have hb2 : (before e k : Int) < 1000000 := by omega
      have G1 := Lib.hid (gb_alloc G.out (.cells #[.int .i64 ((e k).k), .int .i64 ((e k).th), .int .i64 ((e k).tx), .int .i64 ((e k).at_), .int .i64 ((e k).ob), .int .i64 ((e k).va), .int .i64 ((e k).re)] 51))
      by_cases h5 : (e k).k = 5
      · have f5 : ((e k).k == 5) = true := by simp [h5]
        have HB := Lib.hid (show before e (k + 1) = before e k + 1 by rw [before, if_pos h5])
        clear h5
        go_wp2
        go_roundw
        case rel => exact ⟨k + 1, by omega, by go_num, by rw [HB.out]; go_num, G1⟩
        case measure => simp [intOf]; omega
      · have f5 : ((e k).k == 5) = false := by simp [h5]
        have HB := Lib.hid (show before e (k + 1) = before e k by rw [before, if_neg h5]; rfl)
        clear h5
        go_wp2
        go_roundw
        case rel => exact ⟨k + 1, by omega, by go_num, by rw [HB.out], G1⟩
        case measure => simp [intOf]; omega
    · obtain rfl : k = m := by omega
      go_wp2
      go_ret
      exact ⟨rfl, G.out⟩

theorem one_of {ys : List (Tr × Value)} {t : Tr} (h : (ys.map Prod.fst).Perm [t]) : ∃ v, ys = [(t, v)] := by
  have h1 := h.length_eq
  rw [List.length_map] at h1
  match ys, h1, h with
  | [(t', v)], _, h =>
    have := h.mem_iff (a := t') |>.1 (by simp)
    simp at this
    exact ⟨v, by rw [this]⟩

theorem first_of {w : World} {a : Option Addr} {t : Tr} {v : Value} (h : IsTries w a [(t, v)]) : ∃ g va vc, a = some ⟨g, 0, none⟩ ∧ g < w.heap.size ∧ v = .slice va t.ac.length vc ∧ w.cell? ⟨g, 7, none⟩ = some (.bool t.co) ∧ w.cell? ⟨g, 5, none⟩ = some (.int .i64 t.en) ∧ w.cell? ⟨g, 8, none⟩ = some v := by
  obtain ⟨h1, h2⟩ := h
  obtain ⟨va, vc, hv⟩ := owns_slice (h2 (t, v) (by simp))
  rcases h1 with h1 | ⟨g, rfl, hg, hc⟩
  · cases h1
  · exact ⟨g, va, vc, rfl, hg, hv, by simpa using hc 0 (t, v) rfl 7 _ rfl, by simpa using hc 0 (t, v) rfl 5 _ rfl, by simpa using hc 0 (t, v) rfl 8 _ rfl⟩

def exE : Evs := fun i => match i with
  | 0 => ⟨1, 0, 0, 1, 0, 0, 0⟩
  | 1 => ⟨2, 0, 0, 1, 0, 5, 0⟩
  | _ => ⟨5, 0, 0, 1, 0, 0, 0⟩

theorem exE_right : right exE 3 = true := by decide

theorem exE_tries : tries exE 3 = [⟨0, 0, 1, 0, 0, 2, 0, true, [⟨1, 2, 0, 5, false, false⟩]⟩] := by decide

end Go.Proofs.Ytkidkhjpijjphaa.hs

/- Where tries are seen: what follows, in plain numbers. -/
namespace Go.Proofs.Ytkidkhjpijjphaa.oq
open Go Go.RowKit Go.Proofs.Ytkidkhjpijjphaa.base Go.Proofs.Ytkidkhjpijjphaa.hs Go.Proofs.Ytkidkhjpijjphaa.md
set_option linter.unusedVariables false
set_option linter.unusedSimpArgs false

theorem row_wf {k : IntKind} {w : World} {a : Option Addr} {n cap : Nat} {f : Nat → Int} (h : IsRow k w a n cap f) : ∀ i, i < n → (Lit.int k (f i)).wf = true := fun i hi => by
  obtain ⟨_, _, h | ⟨b, off, rfl, hb, h⟩⟩ := h
  · omega
  · exact (h i hi).2
theorem SeenAt.one {e : Evs} {n len i : Nat} {S : Nat → Nat → Int} {t : Tr} {p q : Int} (h : SeenAt e n len i S t p) (g : SeenAt e n len i S t q) : p = q := by
  unfold SeenAt at h g
  split at h
  · next hc =>
    rw [if_pos hc] at g
    rw [h, g]
  · next hc =>
    rw [if_neg hc] at g
    split at h
    · next hb =>
      rw [if_pos hb] at g
      exact h.one g
    · next hb =>
      rw [if_neg hb] at g
      rw [h, g]
theorem Sees.one {e : Evs} {n len : Nat} {S : Nat → Nat → Int} {f g : Nat → Int} (h : Sees e n len S f) (k : Sees e n len S g) : ∀ no, no < (tries e len).length → f no = g no := fun no hno =>
  SeenAt.one (h no _ (List.getElem?_eq_getElem hno)) (k no _ (List.getElem?_eq_getElem hno))
/-- One answer, not both. -/
theorem Sees.both {e : Evs} {n len k : Nat} {S : Nat → Nat → Int} {f g : Nat → Int} (h : Sees e n len S f) (l : Sees e n len S g) (ha : ∀ j, j < (tries e len).length → f j ≠ -1) (hb : k < (tries e len).length ∧ g k = -1 ∧ ∀ j, j < k → g j ≠ -1) : False :=
  ha k hb.1 ((h.one l k hb.1).trans hb.2.1)
theorem Sees.first {e : Evs} {n len j k : Nat} {S : Nat → Nat → Int} {f g : Nat → Int} (h : Sees e n len S f) (l : Sees e n len S g) (ha : j < (tries e len).length ∧ f j = -1 ∧ ∀ i, i < j → f i ≠ -1) (hb : k < (tries e len).length ∧ g k = -1 ∧ ∀ j, j < k → g j ≠ -1) : j = k := by
  rcases Nat.lt_trichotomy j k with c | c | c
  · exact absurd ((h.one l j ha.1).symm.trans ha.2.1) (hb.2.2 j c)
  · exact c
  · exact absurd ((h.one l k hb.1).trans hb.2.1) (ha.2.2 k c)
theorem IsP.congr {f g : Nat → Bool} {lo hi : Nat} {q : Int} (h : IsP f lo hi q) (hfg : ∀ k, k ≤ hi → g k = f k) : IsP g lo hi q := by
  rcases h with ⟨rfl, h⟩ | ⟨p, rfl, h1, h2, h3, h4⟩
  · exact .inl ⟨rfl, fun k a b => (hfg k b).trans (h k a b)⟩
  · exact .inr ⟨p, rfl, h1, h2, (hfg p h2).trans h3, fun k a b => (hfg k (by omega)).trans (h4 k a b)⟩

/-- A beginning's states are the trace's. -/
theorem states_pre {e : Evs} {m len : Nat} (hr : right e len = true) (hm : m ≤ len) (z : Nat → Int) : ∀ k, k ≤ before e m → stAt z (cacs e m) k = stAt z (cacs e len) k := fun k hk => by
  obtain ⟨R, hR⟩ := cacs_pre e hr hm
  rw [hR, stAt_append]
  rw [cacs_before e (right_le e hr m hm)]
  exact hk
theorem tries_first {e : Evs} {m len no : Nat} (hm : m ≤ len) (hno : no < (tries e m).length) : ∃ b, (tries e m)[no]? = some (trAt e b m) ∧ (tries e len)[no]? = some (trAt e b len) ∧ b < m := by
  obtain ⟨r, hr⟩ := begins_pre e m (len - m)
  rw [show m + (len - m) = len by omega] at hr
  have hno' : no < (begins e m).length := by unfold tries at hno; rwa [List.length_map] at hno
  have hb := List.getElem?_eq_getElem hno'
  refine ⟨(begins e m)[no], ?_, ?_, ((begins_mem e m _).1 (List.getElem_mem hno')).1⟩
  · unfold tries
    rw [List.getElem?_map, hb]
    rfl
  · unfold tries
    rw [List.getElem?_map, hr, List.getElem?_append_left hno', hb]
    rfl
/-- What ended in a beginning is seen there where it is seen in all of it. -/
theorem sees_pre {e : Evs} {n m len : Nat} {z : Nat → Int} (hr : right e len = true) (hm : m ≤ len) {f g : Nat → Int} (h : Sees e n len (fun k => stAt z (cacs e len) k) f) (l : Sees e n m (fun k => stAt z (cacs e m) k) g) {no : Nat} {t : Tr} (ht : (tries e m)[no]? = some t) (hen : 0 ≤ t.en) : g no = f no := by
  obtain ⟨b, h1, h2, hb⟩ := tries_first hm (List.getElem?_eq_some_iff.1 ht).1
  rw [ht] at h1
  cases h1
  have he := trAt_end e b hen hm
  have hs := h no _ h2
  have hl := l no _ ht
  rw [he] at hs
  have hend := tries_end (right_le e hr m hm) ht
  have hb2 : (trAt e b m).b = (b : Int) := (trAt_fix e b m).2.2.2.2
  unfold SeenAt at hs hl
  rcases hend with ⟨h3, _⟩ | ⟨q, h3, h4, h5, h6, h7⟩
  · omega
  by_cases hc : (trAt e b m).co = true
  · rw [if_pos hc, h3, Int.toNat_natCast] at hs hl
    have h8 : before e q ≤ before e m := before_mono e (by omega)
    rw [hl, hs]
    have a1 : ((q : Int) < (m : Int)) = True := by simp; omega
    have a2 : ((q : Int) < (len : Int)) = True := by simp; omega
    simp only [states_pre hr hm z _ h8, a1, a2]
  · rw [if_neg hc, if_pos (by omega)] at hs hl
    have e1 : min len (endOf len (trAt e b m)) = q := by unfold endOf; rw [if_neg (by omega), h3]; omega
    have e2 : min m (endOf m (trAt e b m)) = q := by unfold endOf; rw [if_neg (by omega), h3]; omega
    rw [e1] at hs
    rw [e2] at hl
    have h8 : before e q ≤ before e m := before_mono e (by omega)
    exact IsP.one hl (IsP.congr hs fun k hk => by
      dsimp only
      rw [states_pre hr hm z k (by omega)])

/-- A try that is seen is seen between its beginning and its end. -/
theorem seen_within {e : Evs} {n len : Nat} {S : Nat → Nat → Int} {f : Nat → Int} (hr : right e len = true) (h : Sees e n len S f) {no : Nat} {t : Tr} (ht : (tries e len)[no]? = some t) (hf : f no ≠ -1) : (before e t.b.toNat : Int) ≤ f no ∧ f no ≤ (before e (endOf len t) : Int) ∧ (t.co = true → f no = (before e (endOf len t) : Int)) ∧ endOf len t ≤ len ∧ 0 ≤ t.b ∧ t.b < (len : Int) := by
  have hs := h no t ht
  obtain ⟨b, _, _, hb, hbl, _⟩ := tries_get ht
  unfold SeenAt at hs
  by_cases hc : t.co = true
  · rw [if_pos hc] at hs
    rcases tries_end hr ht with ⟨_, h3⟩ | ⟨q, h3, h4, h5, _⟩
    · rw [h3] at hc; cases hc
    have he : endOf len t = q := by unfold endOf; rw [if_neg (by omega), h3]; rfl
    split at hs
    · rw [h3, Int.toNat_natCast] at hs
      rw [he]
      have := before_mono e (show t.b.toNat ≤ q by omega)
      exact ⟨by omega, by omega, fun _ => hs, by omega, by omega, by omega⟩
    · exact absurd hs hf
  · rw [if_neg hc, if_pos (by omega)] at hs
    have he : min len (endOf len t) = endOf len t := by
      unfold endOf
      split
      · exact Nat.min_self _
      · rcases tries_end hr ht with ⟨h3, _⟩ | ⟨q, h3, h4, h5, _⟩ <;> omega
    rw [he] at hs
    have hl : endOf len t ≤ len := by rw [← he]; exact Nat.min_le_left _ _
    rcases hs with ⟨h1, _⟩ | ⟨p, h1, h2, h3, _⟩
    · exact absurd h1 hf
    · exact ⟨by omega, by omega, fun h => absurd h hc, hl, by omega, by omega⟩
end Go.Proofs.Ytkidkhjpijjphaa.oq

/- The order of tries: what follows, in plain numbers. -/
namespace Go.Proofs.Ytkidkhjpijjphaa.base
open Go
set_option linter.unusedVariables false
set_option linter.unusedSimpArgs false

section
variable {ts : List Tr} {f : Nat → Int} {xs : List It}
theorem Ordered.len (h : Ordered ts f xs) : xs.length = ts.length := by
  rw [h.1.length_eq]
  simp [itsOf]
theorem Ordered.mem (h : Ordered ts f xs) {a : It} (ha : a ∈ xs) : a.no < ts.length ∧ a.p = f a.no ∧ ∃ t, ts[a.no]? = some t ∧ a.c = t.co := by
  have h1 := h.1.mem_iff.1 ha
  unfold itsOf at h1
  obtain ⟨k, hk, rfl⟩ := List.mem_map.1 h1
  have hk' := List.mem_range.1 hk
  exact ⟨hk', rfl, ts[k], List.getElem?_eq_getElem hk', by simp [List.getD, hk']⟩
theorem Ordered.get (h : Ordered ts f xs) {i : Nat} {a : It} (ha : xs[i]? = some a) : a.no < ts.length ∧ a.p = f a.no ∧ ∃ t, ts[a.no]? = some t ∧ a.c = t.co := h.mem (List.mem_of_getElem? ha)
theorem Ordered.nos (h : Ordered ts f xs) : (xs.map It.no).Perm (List.range ts.length) := by
  have h1 := h.1.map It.no
  have h2 : (itsOf ts f).map It.no = List.range ts.length := by
    unfold itsOf
    rw [List.map_map]
    exact List.map_id _
  rwa [h2] at h1
theorem Ordered.no_one (h : Ordered ts f xs) {i j : Nat} {a b : It} (ha : xs[i]? = some a) (hb : xs[j]? = some b) (e : a.no = b.no) : i = j := by
  have hn : (xs.map It.no).Nodup := h.nos.nodup_iff.2 List.nodup_range
  obtain ⟨hi, hi2⟩ := List.getElem?_eq_some_iff.1 ha
  obtain ⟨hj, hj2⟩ := List.getElem?_eq_some_iff.1 hb
  have hp := List.pairwise_iff_getElem.1 hn
  rcases Nat.lt_trichotomy i j with l | l | l
  · have := hp i j (by simpa using hi) (by simpa using hj) l
    simp only [List.getElem_map] at this
    rw [hi2, hj2] at this
    exact absurd e this
  · exact l
  · have := hp j i (by simpa using hj) (by simpa using hi) l
    simp only [List.getElem_map] at this
    rw [hi2, hj2] at this
    exact absurd e.symm this
theorem Ordered.all (h : Ordered ts f xs) {no : Nat} (hno : no < ts.length) : ∃ (i : Nat) (a : It), xs[i]? = some a ∧ a.no = no := by
  have h1 : no ∈ xs.map It.no := h.nos.mem_iff.2 (List.mem_range.2 hno)
  obtain ⟨a, ha, rfl⟩ := List.mem_map.1 h1
  obtain ⟨i, hi⟩ := List.getElem?_of_mem ha
  exact ⟨i, a, hi, rfl⟩
theorem Ordered.le (h : Ordered ts f xs) {i j : Nat} {a b : It} (hij : i < j) (ha : xs[i]? = some a) (hb : xs[j]? = some b) : a.le b := by
  obtain ⟨hi, hi2⟩ := List.getElem?_eq_some_iff.1 ha
  obtain ⟨hj, hj2⟩ := List.getElem?_eq_some_iff.1 hb
  have := List.pairwise_iff_getElem.1 h.2 i j hi hj hij
  rwa [hi2, hj2] at this
end
end Go.Proofs.Ytkidkhjpijjphaa.base
namespace Go.Proofs.Ytkidkhjpijjphaa.oq
open Go Go.RowKit Go.Proofs.Ytkidkhjpijjphaa.base Go.Proofs.Ytkidkhjpijjphaa.hs Go.Proofs.Ytkidkhjpijjphaa.md

/-- Those that committed stand in the order of their commits. -/
theorem commits_order {e : Evs} {n len : Nat} {S : Nat → Nat → Int} {f : Nat → Int} {xs : List It} (hr : right e len = true) (h : Sees e n len S f) (hall : ∀ j, j < (tries e len).length → f j ≠ -1) (ho : Ordered (tries e len) f xs) {i j : Nat} {a b : It} {ta tb : Tr} (hij : i < j) (ha : xs[i]? = some a) (hb : xs[j]? = some b) (hta : (tries e len)[a.no]? = some ta) (htb : (tries e len)[b.no]? = some tb) (hca : ta.co = true) (hcb : tb.co = true) : ta.en < tb.en := by
  obtain ⟨a1, a2, t, a3, a4⟩ := ho.get ha
  rw [hta] at a3
  cases a3
  obtain ⟨b1, b2, t, b3, b4⟩ := ho.get hb
  rw [htb] at b3
  cases b3
  have hle := ho.le hij ha hb
  have wa := (seen_within hr h hta (hall _ a1)).2.2.1 hca
  have wb := (seen_within hr h htb (hall _ b1)).2.2.1 hcb
  rcases tries_end hr hta with ⟨_, c⟩ | ⟨p, p1, p2, p3, p4, p5⟩
  · rw [c] at hca; cases hca
  rcases tries_end hr htb with ⟨_, c⟩ | ⟨q, q1, q2, q3, q4, q5⟩
  · rw [c] at hcb; cases hcb
  have ea : endOf len ta = p := by unfold endOf; rw [if_neg (by omega), p1]; rfl
  have eb : endOf len tb = q := by unfold endOf; rw [if_neg (by omega), q1]; rfl
  rw [ea] at wa
  rw [eb] at wb
  rcases Nat.lt_trichotomy p q with l | l | l
  · omega
  · exfalso
    have := en_one e hr (List.mem_of_getElem? hta) (List.mem_of_getElem? htb) (by omega) (by omega)
    subst this
    have h2 := tries_b_one hta htb rfl
    have h3 := ho.no_one ha hb h2
    omega
  · exfalso
    have h5 : before e (q + 1) = before e q + 1 := by rw [before, if_pos (q5.1 hcb)]
    have h6 := before_mono e (show q + 1 ≤ p by omega)
    unfold It.le It.rk at hle
    rw [a4, b4, hca, hcb, a2, b2] at hle
    simp only [if_true] at hle
    omega
end Go.Proofs.Ytkidkhjpijjphaa.oq

/- The tries done one by one in their order, in plain numbers. -/
namespace Go.Proofs.Ytkidkhjpijjphaa.oq
open Go Go.RowKit Go.Proofs.Ytkidkhjpijjphaa.base Go.Proofs.Ytkidkhjpijjphaa.hs Go.Proofs.Ytkidkhjpijjphaa.md
set_option linter.unusedVariables false
set_option linter.unusedSimpArgs false

/-- Each count of commits but the last one is that ahead of one of them. -/
theorem before_at (e : Evs) : ∀ (n c : Nat), c < before e n → ∃ q, q < n ∧ (e q).k = 5 ∧ before e q = c
  | 0, c, h => by simp [before] at h
  | n + 1, c, h => by
    by_cases h1 : c < before e n
    · obtain ⟨q, h2, h3⟩ := before_at e n c h1
      exact ⟨q, by omega, h3⟩
    · rw [before] at h
      split at h
      · next h5 => exact ⟨n, by omega, h5, by omega⟩
      · omega

section
variable {e : Evs} {n len : Nat} {z : Nat → Int} {f : Nat → Int} {xs : List It}
/-- Where one that committed is seen: its place among those that did; and what it makes of the state. -/
theorem commit_seen (hr : right e len = true) (h : Sees e n len (fun k => stAt z (cacs e len) k) f) (hall : ∀ j, j < (tries e len).length → f j ≠ -1) {no : Nat} {t : Tr} (ht : (tries e len)[no]? = some t) (hc : t.co = true) : ∃ q : Nat, q < len ∧ (e q).k = 5 ∧ f no = (before e q : Int) ∧ t.en = (q : Int) ∧ stAt z (cacs e len) (before e q + 1) = app (stAt z (cacs e len) (before e q)) t.ac := by
  rcases tries_end hr ht with ⟨_, c⟩ | ⟨q, q1, q2, q3, q4, q5⟩
  · rw [c] at hc; cases hc
  have ha := hall no (List.getElem?_eq_some_iff.1 ht).1
  have hs := h no t ht
  unfold SeenAt at hs
  rw [if_pos hc, q1, Int.toNat_natCast] at hs
  split at hs
  · obtain ⟨b, _, _, h3, _, h5, h6⟩ := commit_at e hr q3 (q5.1 hc)
    have : trAt e b len = t := en_one e hr (List.mem_of_getElem? h3) (List.mem_of_getElem? ht) (by omega) (by omega)
    rw [this] at h6
    exact ⟨q, q3, q5.1 hc, hs, q1, stAt_step z h6⟩
  · exact absurd hs ha
theorem seen_fits (hr : right e len = true) (h : Sees e n len (fun k => stAt z (cacs e len) k) f) (hall : ∀ j, j < (tries e len).length → f j ≠ -1) {no c : Nat} {t : Tr} (ht : (tries e len)[no]? = some t) (hf : f no = (c : Int)) : fits n (stAt z (cacs e len) c) t.ac = true := by
  have hs := h no t ht
  unfold SeenAt at hs
  split at hs
  · split at hs
    · next h1 =>
      rw [hf] at hs
      have : c = before e t.en.toNat := by omega
      rw [this]
      exact h1.2
    · rw [hf] at hs; omega
  · split at hs
    · rcases hs with ⟨h1, _⟩ | ⟨p, h1, _, _, h4, _⟩
      · rw [hf] at h1; omega
      · rw [hf] at h1
        have : c = p := by omega
        rw [this]
        exact h4
    · rw [hf] at hs; omega

/-- Behind the first i of the order: c of them committed. -/
structure DoneI (xs : List It) (i c : Nat) : Prop where
  lt : ∀ (j : Nat) (a : It), j < i → xs[j]? = some a → a.c = true → a.p < (c : Int)
  ex : c = 0 ∨ ∃ (j : Nat) (a : It), j < i ∧ xs[j]? = some a ∧ a.c = true ∧ a.p = (c : Int) - 1
theorem DoneI.start (xs : List It) : DoneI xs 0 0 := ⟨fun j a hj => by omega, .inl rfl⟩
/-- One that committed for each count. -/
theorem commit_for (hr : right e len = true) (h : Sees e n len (fun k => stAt z (cacs e len) k) f) (hall : ∀ j, j < (tries e len).length → f j ≠ -1) (ho : Ordered (tries e len) f xs) {c : Nat} (hc : c < before e len) : ∃ (j : Nat) (a : It), xs[j]? = some a ∧ a.c = true ∧ a.p = (c : Int) := by
  obtain ⟨q, h1, h2, h3⟩ := before_at e len c hc
  obtain ⟨b, _, _, h4, h5, h6, _⟩ := commit_at e hr h1 h2
  obtain ⟨i, a, h7, h8⟩ := ho.all (List.getElem?_eq_some_iff.1 h4).1
  obtain ⟨_, a2, t, a3, a4⟩ := ho.get h7
  rw [h8, h4] at a3
  cases a3
  obtain ⟨q', _, _, q3, q4, _⟩ := commit_seen hr h hall h4 h5
  have : q' = q := by omega
  subst this
  exact ⟨i, a, h7, a4.trans h5, by rw [a2, h8, q3, h3]⟩
/-- The next one is seen just there. -/
theorem DoneI.at_ {i c : Nat} (d : DoneI xs i c) (hr : right e len = true) (h : Sees e n len (fun k => stAt z (cacs e len) k) f) (hall : ∀ j, j < (tries e len).length → f j ≠ -1) (ho : Ordered (tries e len) f xs) (hcl : c ≤ before e len) {a : It} (ha : xs[i]? = some a) : a.p = (c : Int) := by
  obtain ⟨a1, a2, t, a3, a4⟩ := ho.get ha
  have hw := seen_within hr h a3 (hall _ a1)
  have hge : (c : Int) ≤ a.p := by
    rcases d.ex with h0 | ⟨j, b, hj, hb, hbc, hbp⟩
    · have := hw.1
      rw [a2]
      omega
    · have hle := ho.le hj hb ha
      unfold It.le It.rk at hle
      rw [hbc, hbp] at hle
      cases hc : a.c with
      | false =>
        rw [hc] at hle
        simp at hle
        omega
      | true =>
        rw [hc] at hle
        simp only [if_true] at hle
        have hne : a.p ≠ (c : Int) - 1 := fun e1 => by
          obtain ⟨b1, b2, t', b3, b4⟩ := ho.get hb
          obtain ⟨q, q1, q2, q3, q4, _⟩ := commit_seen hr h hall a3 (a4 ▸ hc)
          obtain ⟨q', r1, r2, r3, r4, _⟩ := commit_seen hr h hall b3 (b4 ▸ hbc)
          have hcc := commits_order hr h hall ho hj hb ha b3 a3 (b4 ▸ hbc) (a4 ▸ hc)
          have h5 : before e (q' + 1) = before e q' + 1 := by rw [before, if_pos r2]
          have h6 := before_mono e (show q' + 1 ≤ q by omega)
          omega
        omega
  have hle : a.p ≤ (c : Int) := by
    by_cases hlt : c < before e len
    · obtain ⟨j, b, hb, hbc, hbp⟩ := commit_for hr h hall ho hlt
      by_cases hji : j < i
      · have := d.lt j b hji hb hbc
        omega
      · by_cases hj : j = i
        · subst hj
          rw [ha] at hb
          cases hb
          omega
        · have hle := ho.le (show i < j by omega) ha hb
          unfold It.le It.rk at hle
          rw [hbc, hbp] at hle
          simp only [if_true] at hle
          split at hle <;> omega
    · have h1 := hw.2.1
      have h2 := before_mono e hw.2.2.2.1
      rw [a2]
      omega
  omega
theorem DoneI.next {i c : Nat} (d : DoneI xs i c) {a : It} (ha : xs[i]? = some a) (hp : a.p = (c : Int)) : DoneI xs (i + 1) (if a.c = true then c + 1 else c) := by
  cases hc : a.c with
  | true =>
    rw [if_pos rfl]
    refine ⟨fun j b hj hb hbc => ?_, .inr ⟨i, a, by omega, ha, hc, by omega⟩⟩
    by_cases e1 : j = i
    · subst e1
      rw [ha] at hb
      cases hb
      omega
    · have := d.lt j b (by omega) hb hbc
      omega
  | false =>
    rw [if_neg (by simp)]
    refine ⟨fun j b hj hb hbc => ?_, d.ex.imp id fun ⟨j, b, hj, h⟩ => ⟨j, b, by omega, h⟩⟩
    by_cases e1 : j = i
    · subst e1
      rw [ha] at hb
      cases hb
      rw [hc] at hbc
      cases hbc
    · exact d.lt j b (by omega) hb hbc
/-- All are done: all that committed. -/
theorem DoneI.done {c : Nat} (d : DoneI xs xs.length c) (hr : right e len = true) (h : Sees e n len (fun k => stAt z (cacs e len) k) f) (hall : ∀ j, j < (tries e len).length → f j ≠ -1) (ho : Ordered (tries e len) f xs) (hcl : c ≤ before e len) : c = before e len := by
  by_cases hlt : c < before e len
  · obtain ⟨j, b, hb, hbc, hbp⟩ := commit_for hr h hall ho hlt
    have := d.lt j b (List.getElem?_eq_some_iff.1 hb).1 hb hbc
    omega
  · omega

/-- The order respects the time. -/
theorem order_time (hr : right e len = true) (h : Sees e n len (fun k => stAt z (cacs e len) k) f) (hall : ∀ j, j < (tries e len).length → f j ≠ -1) (ho : Ordered (tries e len) f xs) {i j : Nat} {a b : It} {ta tb : Tr} (ha : xs[i]? = some a) (hb : xs[j]? = some b) (hta : (tries e len)[a.no]? = some ta) (htb : (tries e len)[b.no]? = some tb) (h0 : 0 ≤ ta.en) (hlt : ta.en < tb.b) : i < j := by
  obtain ⟨a1, a2, t, a3, a4⟩ := ho.get ha
  rw [hta] at a3
  cases a3
  obtain ⟨b1, b2, t, b3, b4⟩ := ho.get hb
  rw [htb] at b3
  cases b3
  have wa := seen_within hr h hta (hall _ a1)
  have wb := seen_within hr h htb (hall _ b1)
  rcases tries_end hr hta with ⟨c, _⟩ | ⟨p, p1, p2, p3, p4, p5⟩
  · omega
  have ea : endOf len ta = p := by unfold endOf; rw [if_neg (by omega), p1]; rfl
  rw [ea] at wa
  have hm := before_mono e (show p ≤ tb.b.toNat by omega)
  have hno : a.no < b.no := by
    have hs := List.pairwise_iff_getElem.1 (tries_sorted e len)
    obtain ⟨x1, x2⟩ := List.getElem?_eq_some_iff.1 hta
    obtain ⟨y1, y2⟩ := List.getElem?_eq_some_iff.1 htb
    rcases Nat.lt_trichotomy a.no b.no with l | l | l
    · exact l
    · exfalso
      have : ta = tb := by rw [← x2, ← y2]; simp only [l]
      subst this
      omega
    · have := hs b.no a.no y1 x1 l
      rw [x2, y2] at this
      omega
  have hle : a.rk < b.rk ∨ a.rk = b.rk := by
    unfold It.rk
    rw [a4, b4, a2, b2]
    cases hc : ta.co with
    | true =>
      have h1 := wa.2.2.1 hc
      have h5 : before e (p + 1) = before e p + 1 := by rw [before, if_pos (p5.1 hc)]
      have h6 := before_mono e (show p + 1 ≤ tb.b.toNat by omega)
      simp only [if_true]
      split <;> omega
    | false =>
      simp only [Bool.false_eq_true, if_false]
      split <;> omega
  rcases Nat.lt_trichotomy i j with l | l | l
  · exact l
  · exfalso
    subst l
    rw [ha] at hb
    cases hb
    omega
  · exfalso
    have := ho.le l hb ha
    unfold It.le at this
    omega
end
end Go.Proofs.Ytkidkhjpijjphaa.oq

/- The document's own answer for package opaque: quarrelref19.before. -/
namespace Go.Proofs.Ytkidkhjpijjphaa.oq
open Go Go.RowKit Go.Proofs.Ytkidkhjpijjphaa.base Go.Proofs.Ytkidkhjpijjphaa.hs Go.Proofs.Ytkidkhjpijjphaa.md
set_option linter.unusedVariables false
set_option linter.unusedSimpArgs false
set_option maxRecDepth 100000

set_option maxHeartbeats 1000000 in
theorem refbefore_any (w : World) (a : Option Addr) (len cap : Nat) (e : Evs) (pl : Int) (hl : IsEvs w a len e) (hlen : len ≤ 1000000) :
    Calls Try.prog 25 #[.slice a len cap, .int .i64 pl] w fun r w' => r = .returned (.int .i64 (before e (min len pl.toNat))) ∧ Hid (w.grownBy w' none) := by
  have HL := Lib.hid hl
  clear hl
  go_enter Try.func25, Try.ntmps25
  go_wp2_with fail
  go_loopw [5, 6] (fun nv iv wr => ∃ k : Nat, k ≤ len ∧ (k : Int) ≤ max pl 0 ∧ iv = .int .i64 k ∧ nv = .int .i64 (before e k) ∧ Hid (w.grownBy wr none)) (fun _ iv _ => (len - intOf iv).toNat)
  case atStart => exact ⟨0, by omega, by omega, rfl, rfl, gb_refl _ _⟩
  case round =>
    obtain ⟨k, hk, hkp, rfl, rfl, G⟩ := hrel
    have hbk := before_le e k
    by_cases hlt : k < len
    · have hlt' : (k : Int) < (len : Int) := by omega
      by_cases hp : (k : Int) < pl
      · obtain ⟨b0, off, rfl, hb0, c0, c1, c2, c3, c4, c5, c6, we⟩ := (HL.out.grown G.out).at7 hlt
        have hk2 : (k : Int) < 1000000 := by omega
        have hb2 : (before e k : Int) < 1000000 := by omega
        by_cases h5 : (e k).k = 5
        · have f5 : ((e k).k == 5) = true := by simp [h5]
          have HB := Lib.hid (show before e (k + 1) = before e k + 1 by rw [before, if_pos h5])
          clear h5
          go_wp2
          go_roundw
          case rel => exact ⟨k + 1, by omega, by omega, by go_num, by rw [HB.out]; go_num, G⟩
          case measure => simp [intOf]; omega
        · have f5 : ((e k).k == 5) = false := by simp [h5]
          have HB := Lib.hid (show before e (k + 1) = before e k by rw [before, if_neg h5]; rfl)
          clear h5
          go_wp2
          go_roundw
          case rel => exact ⟨k + 1, by omega, by omega, by go_num, by rw [HB.out], G⟩
          case measure => simp [intOf]; omega
      · have HM := Lib.hid (show min len pl.toNat = k by omega)
        have hp' : decide ((k : Int) < pl) = false := by simp; omega
        go_wp2
        go_ret
        exact ⟨by rw [HM.out]; rfl, G⟩
    · obtain rfl : k = len := by omega
      have HM := Lib.hid (show min k pl.toNat = k by omega)
      go_wp2
      go_ret
      exact ⟨by rw [HM.out]; rfl, G⟩
end Go.Proofs.Ytkidkhjpijjphaa.oq

/- The document's own answers of chapter 18: Apply, Fits. -/
namespace Go.Proofs.Ytkidkhjpijjphaa.md
open Go Go.RowKit Go.Proofs.Ytkidkhjpijjphaa.base Go.Proofs.Ytkidkhjpijjphaa.hs Go.Proofs.Ytkidkhjpijjphaa.lg Go.Maps
set_option linter.unusedVariables false
set_option maxRecDepth 100000

set_option maxHeartbeats 2000000 in
theorem refapply_any (a : Option Addr) (n c : Nat) (z : Nat → Int) (t : Tr) (av : Option Addr) (vc : Nat) (w : World) (hz : IsNums .i64 w a n z) (hl : IsL accC w av t.ac) (hn : n ≤ 100000) (hm : t.ac.length ≤ 100000) :
    Calls Try.prog 40 #[.slice a n c, .agg ⟨trC t (.slice av t.ac.length vc)⟩] w fun r w' => ∃ a' c', r = .returned (.slice a' n c') ∧ Hid (w'.ownsRow w.heap.size 2 1 (.slice a' n c') n (vals (app z t.ac) n)) ∧ Hid (w.grownBy w' none) := by
  have HZ := Lib.hid hz
  have HL := Lib.hid hl
  clear hz hl
  have BT := Lib.hid (Blk.made w 59 #[.int .i64 t.th, .int .i64 t.tx, .int .i64 t.at_, .int .i64 t.st, .int .i64 t.b, .int .i64 t.en, .int .i64 t.re, .bool t.co, .slice av t.ac.length vc])
  have GA := Lib.hid (World.grownBy_alloc w (.cells #[.int .i64 t.th, .int .i64 t.tx, .int .i64 t.at_, .int .i64 t.st, .int .i64 t.b, .int .i64 t.en, .int .i64 t.re, .bool t.co, .slice av t.ac.length vc] 59) none)
  show Calls Try.prog 40 #[.slice a n c, .agg #[.int .i64 t.th, .int .i64 t.tx, .int .i64 t.at_, .int .i64 t.st, .int .i64 t.b, .int .i64 t.en, .int .i64 t.re, .bool t.co, .slice av t.ac.length vc]] w _
  go_enter Try.func40, Try.ntmps40
  go_wp2
  generalize w.alloc _ = w1 at *
  generalize hbt : w.heap.size = bt at *
  go_loopw [5, 6] (fun ov iv wr => ∃ (o : Nat) (b : Option Addr) (k : Nat), o ≤ n ∧ iv = .int .i64 o ∧ ov = .slice b o k ∧ Hid (wr.ownsRow w1.heap.size 2 1 (.slice b o k) o (vals (app z t.ac) o)) ∧ Hid (w1.grownBy wr none)) (fun _ iv _ => (n - intOf iv).toNat)
  case atStart => exact ⟨0, none, 0, by omega, rfl, rfl, World.ownsRow_nil _ _ _ _, gb_refl _ _⟩
  case round =>
    obtain ⟨o, b, kc, ho, rfl, rfl, HR, G⟩ := hrel
    have B1 := Lib.hid (BT.out.grown G.out (by simp))
    have hbl := B1.out.lt
    by_cases hlt : o < n
    · have hlt' : (o : Int) < (n : Int) := by omega
      have ho6 : (o : Int) < 1000000 := by omega
      obtain ⟨zb, zo, rfl, hzb, cz⟩ := ((HZ.out.grown GA.out).grown G.out).at1 hlt
      have q8 := B1.out.at 8 rfl
      go_wp2
      go_loopw [7, 8] (fun vv iv wq => ∃ k : Nat, k ≤ t.ac.length ∧ iv = .int .i64 k ∧ vv = .int .i64 (app z (t.ac.take k) o) ∧ Hid (wr.grownBy wq none)) (fun _ iv _ => (t.ac.length - intOf iv).toNat)
      case atStart => exact ⟨0, by omega, rfl, rfl, gb_refl _ _⟩
      case round =>
        clear q8
        obtain ⟨k, hk, rfl, rfl, GQ⟩ := hrel
        have B2 := Lib.hid (B1.out.grown GQ.out (by simp))
        have hbl2 := B2.out.lt
        have q8 := B2.out.at 8 rfl
        by_cases hkl : k < t.ac.length
        · have hkl' : (k : Int) < (t.ac.length : Int) := by omega
          have hk6 : (k : Int) < 1000000 := by omega
          have hgk := List.getElem?_eq_getElem hkl
          obtain ⟨b1, o1, rfl, hb1, c0, c1, c2, c3, c4, c5⟩ := acc6 (((HL.out.grown GA.out).grown G.out).grown GQ.out) hgk
          have HT := Lib.hid (app_take z hgk)
          generalize t.ac[k] = y at *
          clear hgk
          by_cases h3 : y.k = 3
          · have f3 : (y.k == 3) = true := by simp [h3]
            by_cases h4 : y.ob = (o : Int)
            · have f4 : (y.ob == (o : Int)) = true := by simp [h4]
              have HN := Lib.hid (show app z (t.ac.take (k + 1)) o = y.va by rw [HT.out]; unfold app1; rw [if_pos ⟨h3, h4⟩])
              clear h3 h4
              go_wp2
              go_roundw
              case rel => exact ⟨k + 1, by omega, by go_num, by rw [HN.out], GQ⟩
              case measure => simp [intOf]; omega
            · have f4 : (y.ob == (o : Int)) = false := by simp [h4]
              have HN := Lib.hid (show app z (t.ac.take (k + 1)) o = app z (t.ac.take k) o by rw [HT.out]; unfold app1; rw [if_neg (fun h => h4 h.2)])
              clear h3 h4
              generalize app z (t.ac.take k) o = v at *
              go_wp2
              go_roundw
              case rel => exact ⟨k + 1, by omega, by go_num, by rw [HN.out], GQ⟩
              case measure => simp [intOf]; omega
          · have f3 : (y.k == 3) = false := by simp [h3]
            have HN := Lib.hid (show app z (t.ac.take (k + 1)) o = app z (t.ac.take k) o by rw [HT.out]; unfold app1; rw [if_neg (fun h => h3 h.1)])
            clear h3
            generalize app z (t.ac.take k) o = v at *
            go_wp2
            go_roundw
            case rel => exact ⟨k + 1, by omega, by go_num, by rw [HN.out], GQ⟩
            case measure => simp [intOf]; omega
        · obtain rfl : k = t.ac.length := by omega
          have HRQ := Lib.hid (ownsRow_keep HR.out (fun k e => GQ.out.block k (HR.out.lt k e).2 (by simp)))
          have G2 := Lib.hid (gb_trans G.out GQ.out)
          have HV := Lib.hid (show app z (t.ac.take t.ac.length) o = app z t.ac o by rw [app_all])
          generalize app z (t.ac.take t.ac.length) o = v at *
          have hsz : w1.heap.size ≤ wr.heap.size := Nat.le_trans G.out.size GQ.out.size
          go_wp2_with (at_builtin; go_loud (refine append64 _ rfl (.tmp 49) (.tmp 51) rfl w1.heap.size _ o (vals (app z t.ac) o) rfl (HRQ.out.alloc _) (some ⟨wr.heap.size, 0, none⟩) 1 1 [.int .i64 v] rfl rfl (new_src wr [.int .i64 v] 2 _ rfl) (by intro u hu; simp at hu; subst hu; rfl) (by omega) (by simp; omega) ?_); intro b' c' u2 ho2 hg2 hv2)
          go_roundw
          case rel =>
            refine ⟨o + 1, b', c', by omega, by go_num, rfl, ?_, gb_overO (gb_trans G2.out (World.grownBy_alloc wr _ none)) hg2 (fun i e => (HR.out.lt i e).1)⟩
            · show World.ownsRow _ _ _ _ _ _ _
              rw [vals_succ, ← HV.out]
              exact ho2
          case measure => simp [intOf]; omega
    · obtain rfl : o = n := by omega
      go_wp2
      go_ret
      subst hbt
      exact ⟨b, kc, rfl, ownsRow_drop HR.out (by have := GA.out.size; omega), gb_trans GA.out G.out⟩
end Go.Proofs.Ytkidkhjpijjphaa.md

/- The document's own answers of chapter 18: Fits. -/
namespace Go.Proofs.Ytkidkhjpijjphaa.md
open Go Go.RowKit Go.Proofs.Ytkidkhjpijjphaa.base Go.Proofs.Ytkidkhjpijjphaa.hs Go.Proofs.Ytkidkhjpijjphaa.lg Go.Maps
set_option linter.unusedVariables false
set_option maxRecDepth 100000

set_option maxHeartbeats 4000000 in
theorem reffits_any (a : Option Addr) (n c : Nat) (z : Nat → Int) (t : Tr) (av : Option Addr) (vc : Nat) (w : World) (hz : IsNums .i64 w a n z) (hl : IsL accC w av t.ac) (hn : n ≤ 100000) (hm : t.ac.length ≤ 100000) :
    Calls Try.prog 26 #[.slice a n c, .agg ⟨trC t (.slice av t.ac.length vc)⟩] w fun r w' => r = .returned (.bool (fits n z t.ac)) ∧ Hid (w.grownBy w' none) := by
  have HZ := Lib.hid hz
  have HL := Lib.hid hl
  clear hz hl
  have BT := Lib.hid (Blk.made w 59 #[.int .i64 t.th, .int .i64 t.tx, .int .i64 t.at_, .int .i64 t.st, .int .i64 t.b, .int .i64 t.en, .int .i64 t.re, .bool t.co, .slice av t.ac.length vc])
  have GA := Lib.hid (World.grownBy_alloc w (.cells #[.int .i64 t.th, .int .i64 t.tx, .int .i64 t.at_, .int .i64 t.st, .int .i64 t.b, .int .i64 t.en, .int .i64 t.re, .bool t.co, .slice av t.ac.length vc] 59) none)
  show Calls Try.prog 26 #[.slice a n c, .agg #[.int .i64 t.th, .int .i64 t.tx, .int .i64 t.at_, .int .i64 t.st, .int .i64 t.b, .int .i64 t.en, .int .i64 t.re, .bool t.co, .slice av t.ac.length vc]] w _
  go_enter Try.func26, Try.ntmps26
  go_wp2
  generalize w.alloc _ = w1 at *
  generalize hbt : w.heap.size = bt at *
  go_loopw [5] (fun iv wr => ∃ k : Nat, k ≤ t.ac.length ∧ iv = .int .i64 k ∧ Hid (fitsN n z t.ac k = true) ∧ Hid (w1.grownBy wr none)) (fun iv _ => (t.ac.length - intOf iv).toNat)
  case atStart => exact ⟨0, by omega, rfl, rfl, gb_refl _ _⟩
  case round =>
    obtain ⟨k, hk, rfl, HF, G⟩ := hrel
    have B1 := Lib.hid (BT.out.grown G.out (by simp))
    have hbl := B1.out.lt
    have q8 := B1.out.at 8 rfl
    by_cases hlt : k < t.ac.length
    · have hlt' : (k : Int) < (t.ac.length : Int) := by omega
      have hk6 : (k : Int) < 1000000 := by omega
      have hgk := List.getElem?_eq_getElem hlt
      obtain ⟨b1, o1, rfl, hb1, c0, c1, c2, c3, c4, c5⟩ := acc6 ((HL.out.grown GA.out).grown G.out) hgk
      have HST := Lib.hid (fitsN_step (n := n) (z := z) hgk)
      have HBAD := Lib.hid (fun h => fits_bad (n := n) (z := z) hgk h)
      generalize t.ac[k] = y at *
      clear hgk
      obtain ⟨pl, ak, ob, va, own, rel⟩ := y
      dsimp only at HST HBAD c0 c1 c2 c3 c4 c5
      have G1 := Lib.hid (World.grownBy_alloc wr (.cells #[.int .i64 pl, .int .i64 ak, .int .i64 ob, .int .i64 va, .bool own, .bool rel] 83) none)
      have EB := Lib.hid (Blk.made wr 83 #[.int .i64 pl, .int .i64 ak, .int .i64 ob, .int .i64 va, .bool own, .bool rel])
      by_cases h2 : ak = 2
      · have f2 : (ak != 2) = false := by simp [h2]
        cases rel with
        | true =>
          have HN := Lib.hid (show fitsN n z t.ac (k + 1) = true by rw [HST.out, HF.out]; unfold readOk; rw [if_neg (by simp)]; rfl)
          clear h2 HST HBAD
          go_wp2
          go_roundw
          (case rel => exact ⟨k + 1, by omega, by go_num, HN, gb_trans G.out G1.out⟩); (case measure => simp [intOf]; omega)
        | false =>
          have HOK := Lib.hid (show readOk n z (lastW (t.ac.take k) ob) ⟨pl, ak, ob, va, own, false⟩ = tellsB n z (lastW (t.ac.take k) ob) ⟨pl, ak, ob, va, own, false⟩ by unfold readOk; rw [if_pos ⟨h2, rfl⟩])
          clear h2
          go_wp2
          generalize wr.alloc _ = w2 at *
          generalize hba : wr.heap.size = ba at *
          clear c0 c1 c2 c3 c4 c5 q8 hb1 hba
          have B2 := Lib.hid (B1.out.grown G1.out (by simp))
          have HL2 := Lib.hid (((HL.out.grown GA.out).grown G.out).grown G1.out)
          go_loopw [7, 8, 9] (fun wv mv jv wr => ∃ (j : Nat) (wt : Int) (mi : Bool), j ≤ k ∧ jv = .int .i64 j ∧ wv = .int .i64 wt ∧ mv = .bool mi ∧ Hid (lastW (t.ac.take j) ob = if mi = true then some wt else none) ∧ Hid (w2.grownBy wr none)) (fun _ _ jv _ => (k - intOf jv).toNat)
          case atStart => exact ⟨0, 0, false, by omega, rfl, rfl, rfl, rfl, gb_refl _ _⟩
          case round =>
            obtain ⟨j, wt, mi, hj, rfl, rfl, rfl, HW, GQ⟩ := hrel
            have B3 := Lib.hid (B2.out.grown GQ.out (by simp))
            have E3 := Lib.hid (EB.out.grown GQ.out (by simp))
            have hbl3 := B3.out.lt
            have hel3 := E3.out.lt
            have q8 := B3.out.at 8 rfl; have e0 := E3.out.at 0 rfl; have e1 := E3.out.at 1 rfl; have e2 := E3.out.at 2 rfl; have e3 := E3.out.at 3 rfl; have e4 := E3.out.at 4 rfl; have e5 := E3.out.at 5 rfl
            by_cases hjk : j < k
            · have hjk' : (j : Int) < (k : Int) := by omega
              have hj6 : (j : Int) < 1000000 := by omega
              have hjl : (j : Int) < (t.ac.length : Int) := by omega
              have hgj := List.getElem?_eq_getElem (show j < t.ac.length by omega)
              obtain ⟨b2, o2, hav, hb2, d0, d1, d2, d3, d4, d5⟩ := acc6 (HL2.out.grown GQ.out) hgj
              cases hav
              have HT := Lib.hid (lastW_take hgj ob)
              generalize t.ac[j] = x at *
              clear hgj
              by_cases h3 : x.k = 3
              · have f3 : (x.k == 3) = true := by simp [h3]
                by_cases h4 : x.ob = ob
                · have f4 : (x.ob == ob) = true := by simp [h4]
                  have HN := Lib.hid (show lastW (t.ac.take (j + 1)) ob = some x.va by rw [HT.out, if_pos ⟨h3, h4⟩])
                  clear h3 h4
                  go_wp2_with fail
                  go_quiet (fail)
                  go_wp2
                  go_roundw
                  case rel => exact ⟨j + 1, x.va, true, by omega, by go_num, rfl, rfl, HN, gb_drewN GQ.out _⟩
                  case measure => simp [intOf]; omega
                · have f4 : (x.ob == ob) = false := by simp [h4]
                  have HN := Lib.hid (show lastW (t.ac.take (j + 1)) ob = if mi = true then some wt else none by rw [HT.out, if_neg (fun h => h4 h.2)]; exact HW.out)
                  clear h3 h4
                  go_wp2_with fail
                  go_quiet (fail)
                  go_wp2
                  go_roundw
                  case rel => exact ⟨j + 1, wt, mi, by omega, by go_num, rfl, rfl, HN, gb_drewN GQ.out _⟩
                  case measure => simp [intOf]; omega
              · have f3 : (x.k == 3) = false := by simp [h3]
                have HN := Lib.hid (show lastW (t.ac.take (j + 1)) ob = if mi = true then some wt else none by rw [HT.out, if_neg (fun h => h3 h.1)]; exact HW.out)
                clear h3
                go_wp2_with fail
                go_quiet (fail)
                go_wp2
                go_roundw
                case rel => exact ⟨j + 1, wt, mi, by omega, by go_num, rfl, rfl, HN, gb_drewN GQ.out _⟩
                case measure => simp [intOf]; omega
            · obtain rfl : j = k := by omega
              have GG := Lib.hid (gb_trans G1.out GQ.out)
              clear HL2 B2 q8
              cases mi with
              | true =>
                have HL0 : lastW (t.ac.take j) ob = some wt := HW.out
                rw [HL0] at HOK HST HBAD
                have HOK2 := Lib.hid HOK.out
                cases own with
                | true =>
                  by_cases h5 : va = wt
                  · have f5 : (wt != va) = false := by simp [h5]
                    have HN := Lib.hid (show fitsN n z t.ac (j + 1) = true by rw [HST.out, HF.out, HOK.out]; simp [tellsB, h5])
                    clear h5 HL0 HST HBAD HOK HOK2 HW
                    go_wp2
                    go_roundw
                    (case rel => exact ⟨j + 1, by omega, by go_num, HN, gb_trans G.out GG.out⟩); (case measure => simp [intOf]; omega)
                  · have f5 : (wt != va) = true := by simp; omega
                    have HN := Lib.hid (show fits n z t.ac = false from HBAD.out (by rw [HOK.out]; simp [tellsB, h5]))
                    clear h5 HL0 HST HBAD HOK HOK2 HW
                    go_wp2
                    go_ret; exact ⟨by rw [HN.out]; rfl, gb_trans (gb_trans GA.out G.out) GG.out⟩
                | false =>
                  have HN := Lib.hid (show fits n z t.ac = false from HBAD.out (by rw [HOK.out]; simp [tellsB]))
                  clear HL0 HST HBAD HOK HOK2 HW
                  go_wp2
                  go_ret; exact ⟨by rw [HN.out]; rfl, gb_trans (gb_trans GA.out G.out) GG.out⟩
              | false =>
                have HL0 : lastW (t.ac.take j) ob = none := HW.out
                rw [HL0] at HOK HST HBAD
                by_cases h6 : ob < 0
                · have HN := Lib.hid (show fits n z t.ac = false from HBAD.out (by rw [HOK.out]; simp [tellsB, show ¬ (0 : Int) ≤ ob by omega]))
                  clear HL0 HST HBAD HOK HW
                  go_wp2
                  go_ret; exact ⟨by rw [HN.out]; rfl, gb_trans (gb_trans GA.out G.out) GG.out⟩
                · have f6 : decide (ob < 0) = false := by simpa using h6
                  by_cases h7 : (n : Int) ≤ ob
                  · have HN := Lib.hid (show fits n z t.ac = false from HBAD.out (by rw [HOK.out]; simp [tellsB, show ¬ ob < (n : Int) by omega]))
                    clear HL0 HST HBAD HOK HW h6
                    go_wp2
                    go_ret; exact ⟨by rw [HN.out]; rfl, gb_trans (gb_trans GA.out G.out) GG.out⟩
                  · have f7 : decide ((n : Int) ≤ ob) = false := by simpa using h7
                    go_upto_region 16 with fail
                    obtain ⟨i, rfl⟩ : ∃ i : Nat, ob = (i : Int) := ⟨ob.toNat, by omega⟩
                    have hi : i < n := by omega
                    have hi' : (i : Int) < (n : Int) := by omega
                    obtain ⟨zb, zo, rfl, hzb, cz⟩ := (((HZ.out.grown GA.out).grown G.out).grown GG.out).at1 hi
                    have HTB := Lib.hid (show tellsB n z none ⟨pl, ak, i, va, own, false⟩ = (!own && va == z i) by simp [tellsB, hi])
                    rw [HTB.out] at HOK
                    clear HL0 h6 h7 f6 f7 HTB
                    generalize z i = zi at *
                    cases own with
                    | true =>
                      have HN := Lib.hid (show fits n z t.ac = false from HBAD.out (by rw [HOK.out]; rfl))
                      clear HST HBAD HOK HW
                      go_wp2
                      go_ret; exact ⟨by rw [HN.out]; rfl, gb_trans (gb_trans GA.out G.out) GG.out⟩
                    | false =>
                      by_cases h5 : va = zi
                      · have f5 : (zi != va) = false := by simp [h5]
                        have HN := Lib.hid (show fitsN n z t.ac (j + 1) = true by rw [HST.out, HF.out, HOK.out]; simp [h5])
                        clear h5 HST HBAD HOK HW
                        go_wp2
                        go_roundw
                        (case rel => exact ⟨j + 1, by omega, by go_num, HN, gb_trans G.out GG.out⟩); (case measure => simp [intOf]; omega)
                      · have f5 : (zi != va) = true := by simp; omega
                        have HN := Lib.hid (show fits n z t.ac = false from HBAD.out (by rw [HOK.out]; simp [h5]))
                        clear h5 HST HBAD HOK HW
                        go_wp2
                        go_ret; exact ⟨by rw [HN.out]; rfl, gb_trans (gb_trans GA.out G.out) GG.out⟩
      · have f2 : (ak != 2) = true := by simp [h2]
        have HN := Lib.hid (show fitsN n z t.ac (k + 1) = true by rw [HST.out, HF.out]; unfold readOk; rw [if_neg (fun h => h2 h.1)]; rfl)
        clear h2 HST HBAD
        go_wp2
        go_roundw
        (case rel => exact ⟨k + 1, by omega, by go_num, HN, gb_trans G.out G1.out⟩); (case measure => simp [intOf]; omega)
    · obtain rfl : k = t.ac.length := by omega
      go_wp2
      go_ret
      exact ⟨by rw [show fits n z t.ac = true from HF.out]; rfl, gb_trans GA.out G.out⟩
end Go.Proofs.Ytkidkhjpijjphaa.md

/- A piece of a function's code, by its path (of a sequence 0 and 1, of a test 0 and 1, of a block or a loop 0). -/
namespace Go.Proofs.Ytkidkhjpijjphaa.base
open Go

def pc : List Nat → Code → Code
  | [], c => c
  | 0 :: p, .seq a _ => pc p a
  | _ :: p, .seq _ b => pc p b
  | 0 :: p, .cond _ a _ => pc p a
  | _ :: p, .cond _ _ b => pc p b
  | _ :: p, .block _ b => pc p b
  | _ :: p, .loop b => pc p b
  | _ :: p, .scope b => pc p b
  | _ :: _, c => c
def pcs (f : Func) (p : List Nat) : Code := pc p (f.body.getD .skip)
end Go.Proofs.Ytkidkhjpijjphaa.base

/- The document's Tries: region 6. A theorem of its own over that piece of the code. -/
namespace Go.Proofs.Ytkidkhjpijjphaa.hs
open Go Go.RowKit Go.Proofs.Ytkidkhjpijjphaa.base Go.Maps
set_option linter.unusedVariables false
set_option maxRecDepth 100000

set_option maxHeartbeats 4000000 in
theorem piece6 (w : World) (eb off len cap : Nat) (e : Evs) (i : Nat) (hl : IsEvs w (some ⟨eb, off, none⟩) len e) (hlt : i < len) (hlen : len ≤ 10000) {v1 v2 v3 v5 v6 v7 v8 v9 v10 v11 v12 v13 v14 v15 v16 v17 v18 v19 v20 v21 v22 v23 v24 v25 v26 v27 v28 v29 v30 v31 v32 v33 v34 v35 v36 v37 v38 v39 v40 v41 v42 v43 v44 v45 v46 v47 v48 v49 v50 v51 v52 v53 v54 v55 v56 v57 v58 v59 v60 v61 v62 v63 v64 v65 v66 v67 v68 v69 v70 v71 v72 v73 v74 v75 v76 v77 v78 v79 v80 v81 v82 v83 v84 v85 v86 v87 v88 v89 v90 v91 v92 v93 v94 v95 v96 v97 v98 v99 v100 v101 v102 v103 v104 v105 v106 v107 v108 v109 v110 v111 v112 v113 v114 v115 v116 v117 v118 v119 v120 v121 v122 v123 v124 v125 v126 v127 v128 v129 v130 v131 v132 v133 v134 v135 v136 v137 v138 v139 v140 v141 v142 v143 v144 v145 v146 v147 v148 v149 v150 v151 v152 v153 v154 v155 v156 v157 v158 v159 v160 v161 v162 v163 v164 v165 v166 v167 v168 v169 v170 v171 : Value} {Q : Exit → Act → World → Prop}
    (hJ : Hid (∀ (u23 u24 u25 u26 u27 u28 u29 u30 u31 u32 u33 u34 u35 u36 u37 u38 u39 u40 u41 u42 u43 u44 : Value), Q Exit.normal { tmps := #[.slice (some ⟨eb, off, none⟩) len cap, v1, v2, v3, .int .i64 i, .pointer (some ⟨w.heap.size, 0, none⟩), v6, v7, v8, v9, v10, v11, v12, v13, v14, v15, v16, v17, v18, v19, v20, v21, v22, u23, u24, u25, u26, u27, u28, u29, u30, u31, u32, u33, u34, u35, u36, u37, u38, u39, u40, u41, u42, u43, u44, v45, v46, v47, v48, v49, v50, v51, v52, v53, v54, v55, v56, v57, v58, v59, v60, v61, v62, v63, v64, v65, v66, v67, v68, v69, v70, v71, v72, v73, v74, v75, v76, v77, v78, v79, v80, v81, v82, v83, v84, v85, v86, v87, v88, v89, v90, v91, v92, v93, v94, v95, v96, v97, v98, v99, v100, v101, v102, v103, v104, v105, v106, v107, v108, v109, v110, v111, v112, v113, v114, v115, v116, v117, v118, v119, v120, v121, v122, v123, v124, v125, v126, v127, v128, v129, v130, v131, v132, v133, v134, v135, v136, v137, v138, v139, v140, v141, v142, v143, v144, v145, v146, v147, v148, v149, v150, v151, v152, v153, v154, v155, v156, v157, v158, v159, v160, v161, v162, v163, v164, v165, v166, v167, v168, v169, v170, v171], defers := [] } (w.alloc (.cells #[.int .i64 ((e i).th), .int .i64 ((e i).tx), .int .i64 ((e i).at_), .int .i64 ((e i).va), .int .i64 i, .int .i64 (-1), .int .i64 0, .bool false, .slice none 0 0] 59)).drew)) :
    Code.wp Try.prog (pcs Try.f24 [1, 1, 0, 1, 0, 0, 1, 0, 0, 1, 0]) (Q) { tmps := #[.slice (some ⟨eb, off, none⟩) len cap, v1, v2, v3, .int .i64 i, v5, v6, v7, v8, v9, v10, v11, v12, v13, v14, v15, v16, v17, v18, v19, v20, v21, v22, v23, v24, v25, v26, v27, v28, v29, v30, v31, v32, v33, v34, v35, v36, v37, v38, v39, v40, v41, v42, v43, v44, v45, v46, v47, v48, v49, v50, v51, v52, v53, v54, v55, v56, v57, v58, v59, v60, v61, v62, v63, v64, v65, v66, v67, v68, v69, v70, v71, v72, v73, v74, v75, v76, v77, v78, v79, v80, v81, v82, v83, v84, v85, v86, v87, v88, v89, v90, v91, v92, v93, v94, v95, v96, v97, v98, v99, v100, v101, v102, v103, v104, v105, v106, v107, v108, v109, v110, v111, v112, v113, v114, v115, v116, v117, v118, v119, v120, v121, v122, v123, v124, v125, v126, v127, v128, v129, v130, v131, v132, v133, v134, v135, v136, v137, v138, v139, v140, v141, v142, v143, v144, v145, v146, v147, v148, v149, v150, v151, v152, v153, v154, v155, v156, v157, v158, v159, v160, v161, v162, v163, v164, v165, v166, v167, v168, v169, v170, v171], defers := [] } w := by
  dsimp only
  conv => arg 2; whnf
  obtain ⟨c0, c1, c2, c3, c4, c5, c6⟩ := evsIn hl hlt
  have heb : eb < w.heap.size := World.block_lt_of_cell? w _ c0
  have hlt' : (i : Int) < (len : Int) := by omega
  have hil : (i : Int) < 1000000 := by omega
  clear hl
  refine wp_region_noPanic ?_
  go_region
  refine NoPanic.normal ?_
  exact hJ.out _ _ _ _ _ _ _ _ _ _ _ _ _ _ _ _ _ _ _ _ _ _
end Go.Proofs.Ytkidkhjpijjphaa.hs

/- The document's Tries: region 11. A theorem of its own over that piece of the code. -/
namespace Go.Proofs.Ytkidkhjpijjphaa.hs
open Go Go.RowKit Go.Proofs.Ytkidkhjpijjphaa.base Go.Maps
set_option linter.unusedVariables false
set_option maxRecDepth 100000

set_option maxHeartbeats 4000000 in
theorem piece11 (w : World) (eb off len cap : Nat) (i be : Nat) (x y : Ev) (q qn : Bool) (hq : ownE x y = q) (hqn : (!q) = qn) (hlt : i < len) (hlen : len ≤ 10000) (hx : Hid (w.cell? ⟨eb, off + i * 7, none⟩ = some (.int .i64 x.k) ∧ w.cell? ⟨eb, off + i * 7 + 1, none⟩ = some (.int .i64 x.th) ∧ w.cell? ⟨eb, off + i * 7 + 2, none⟩ = some (.int .i64 x.tx) ∧ w.cell? ⟨eb, off + i * 7 + 3, none⟩ = some (.int .i64 x.at_) ∧ w.cell? ⟨eb, off + i * 7 + 4, none⟩ = some (.int .i64 x.ob) ∧ w.cell? ⟨eb, off + i * 7 + 5, none⟩ = some (.int .i64 x.va) ∧ w.cell? ⟨eb, off + i * 7 + 6, none⟩ = some (.int .i64 x.re))) (hy : Hid (Blk 51 w be #[.int .i64 ((y).k), .int .i64 ((y).th), .int .i64 ((y).tx), .int .i64 ((y).at_), .int .i64 ((y).ob), .int .i64 ((y).va), .int .i64 ((y).re)])) {v1 v2 v3 v5 v6 v8 v9 v10 v11 v12 v13 v14 v15 v16 v17 v18 v19 v20 v21 v22 v23 v24 v25 v26 v27 v28 v29 v30 v31 v32 v33 v34 v35 v36 v37 v38 v39 v40 v41 v42 v43 v44 v45 v46 v47 v48 v49 v50 v51 v52 v53 v54 v55 v56 v57 v58 v59 v60 v61 v62 v63 v64 v65 v66 v67 v68 v69 v70 v71 v72 v73 v74 v75 v76 v77 v78 v79 v80 v81 v82 v83 v84 v85 v86 v87 v88 v89 v90 v91 v92 v93 v94 v95 v96 v97 v98 v99 v100 v101 v102 v103 v104 v105 v106 v107 v108 v109 v110 v111 v112 v113 v114 v115 v116 v117 v118 v119 v120 v121 v122 v123 v124 v125 v126 v127 v128 v129 v130 v131 v132 v133 v134 v135 v136 v137 v138 v139 v140 v141 v142 v143 v144 v145 v146 v147 v148 v149 v150 v151 v152 v153 v154 v155 v156 v157 v158 v159 v160 v161 v162 v163 v164 v165 v166 v167 v168 v169 v170 v171 : Value} {Q : Exit → Act → World → Prop}
    (hJ : ∀ (u62 u63 u64 u65 u66 u67 : Value) (w' : World), Hid (w.grownBy w' none) → Q Exit.normal { tmps := #[.slice (some ⟨eb, off, none⟩) len cap, v1, v2, v3, .int .i64 i, v5, v6, .pointer (some ⟨be, 0, none⟩), v8, v9, v10, v11, v12, v13, v14, v15, v16, v17, v18, v19, v20, v21, v22, v23, v24, v25, v26, v27, v28, v29, v30, v31, v32, v33, v34, v35, v36, v37, v38, v39, v40, v41, v42, v43, v44, v45, v46, v47, v48, v49, v50, v51, v52, v53, v54, v55, v56, v57, v58, v59, v60, v61, u62, u63, u64, u65, u66, u67, .bool qn, v69, v70, v71, v72, v73, v74, v75, v76, v77, v78, v79, v80, v81, v82, v83, v84, v85, v86, v87, v88, v89, v90, v91, v92, v93, v94, v95, v96, v97, v98, v99, v100, v101, v102, v103, v104, v105, v106, v107, v108, v109, v110, v111, v112, v113, v114, v115, v116, v117, v118, v119, v120, v121, v122, v123, v124, v125, v126, v127, v128, v129, v130, v131, v132, v133, v134, v135, v136, v137, v138, v139, v140, v141, v142, v143, v144, v145, v146, v147, v148, v149, v150, v151, v152, v153, v154, v155, v156, v157, v158, v159, v160, v161, v162, v163, v164, v165, v166, v167, v168, v169, v170, v171], defers := [] } w') :
    Code.wp Try.prog (pcs Try.f24 [1, 1, 0, 1, 0, 0, 1, 0, 0, 1, 1, 0, 1, 0, 0, 1, 0, 0, 1, 0, 0]) (Q) { tmps := #[.slice (some ⟨eb, off, none⟩) len cap, v1, v2, v3, .int .i64 i, v5, v6, .pointer (some ⟨be, 0, none⟩), v8, v9, v10, v11, v12, v13, v14, v15, v16, v17, v18, v19, v20, v21, v22, v23, v24, v25, v26, v27, v28, v29, v30, v31, v32, v33, v34, v35, v36, v37, v38, v39, v40, v41, v42, v43, v44, v45, v46, v47, v48, v49, v50, v51, v52, v53, v54, v55, v56, v57, v58, v59, v60, v61, v62, v63, v64, v65, v66, v67, v68, v69, v70, v71, v72, v73, v74, v75, v76, v77, v78, v79, v80, v81, v82, v83, v84, v85, v86, v87, v88, v89, v90, v91, v92, v93, v94, v95, v96, v97, v98, v99, v100, v101, v102, v103, v104, v105, v106, v107, v108, v109, v110, v111, v112, v113, v114, v115, v116, v117, v118, v119, v120, v121, v122, v123, v124, v125, v126, v127, v128, v129, v130, v131, v132, v133, v134, v135, v136, v137, v138, v139, v140, v141, v142, v143, v144, v145, v146, v147, v148, v149, v150, v151, v152, v153, v154, v155, v156, v157, v158, v159, v160, v161, v162, v163, v164, v165, v166, v167, v168, v169, v170, v171], defers := [] } w := by
  dsimp only
  conv => arg 2; whnf
  obtain ⟨d0, d1, d2, d3, d4, d5, d6⟩ := hx.out
  have y0 := hy.out.at 0 rfl; have y1 := hy.out.at 1 rfl; have y2 := hy.out.at 2 rfl; have y3 := hy.out.at 3 rfl; have y4 := hy.out.at 4 rfl; have y5 := hy.out.at 5 rfl; have y6 := hy.out.at 6 rfl
  have hlt' : (i : Int) < (len : Int) := by omega
  have hil : (i : Int) < 1000000 := by omega
  have OW := Lib.hid (own_any x y)
  rw [hq] at OW
  subst hqn
  clear hq
  clear hx
  go_region_held3 (fun w' => w'.cell? ⟨eb, off + i * 7, none⟩ = some (.int .i64 x.k) ∧ w'.cell? ⟨eb, off + i * 7 + 1, none⟩ = some (.int .i64 x.th) ∧ w'.cell? ⟨eb, off + i * 7 + 2, none⟩ = some (.int .i64 x.tx) ∧ w'.cell? ⟨eb, off + i * 7 + 3, none⟩ = some (.int .i64 x.at_) ∧ w'.cell? ⟨eb, off + i * 7 + 4, none⟩ = some (.int .i64 x.ob) ∧ w'.cell? ⟨eb, off + i * 7 + 5, none⟩ = some (.int .i64 x.va) ∧ w'.cell? ⟨eb, off + i * 7 + 6, none⟩ = some (.int .i64 x.re) ∧ w'.cell? ⟨be, 0, none⟩ = some (.int .i64 y.k) ∧ w'.cell? ⟨be, 1, none⟩ = some (.int .i64 y.th) ∧ w'.cell? ⟨be, 2, none⟩ = some (.int .i64 y.tx) ∧ w'.cell? ⟨be, 3, none⟩ = some (.int .i64 y.at_) ∧ w'.cell? ⟨be, 4, none⟩ = some (.int .i64 y.ob) ∧ w'.cell? ⟨be, 5, none⟩ = some (.int .i64 y.va) ∧ w'.cell? ⟨be, 6, none⟩ = some (.int .i64 y.re)) (go_keep) ((go_at_call 38; refine (OW.out _).mono ?_; rintro r u3 ⟨rfl, g3⟩; have m0 := g3.out.cell d0 (by simp); have m1 := g3.out.cell d1 (by simp); have m2 := g3.out.cell d2 (by simp); have m3 := g3.out.cell d3 (by simp); have m4 := g3.out.cell d4 (by simp); have m5 := g3.out.cell d5 (by simp); have m6 := g3.out.cell d6 (by simp); have n0 := g3.out.cell y0 (by simp); have n1 := g3.out.cell y1 (by simp); have n2 := g3.out.cell y2 (by simp); have n3 := g3.out.cell y3 (by simp); have n4 := g3.out.cell y4 (by simp); have n5 := g3.out.cell y5 (by simp); have n6 := g3.out.cell y6 (by simp)))
  exact hJ _ _ _ _ _ _ _ (gb_trans (gb_drew (gb_refl w _)) g3.out)
end Go.Proofs.Ytkidkhjpijjphaa.hs

/- The document's Tries: loop 3: is it own?. A theorem of its own over that piece of the code. -/
namespace Go.Proofs.Ytkidkhjpijjphaa.hs
open Go Go.RowKit Go.Proofs.Ytkidkhjpijjphaa.base Go.Maps
set_option linter.unusedVariables false
set_option maxRecDepth 100000

set_option maxHeartbeats 4000000 in
theorem piece3 (w : World) (u0 : World) (bt be ba k : Nat) (T : Tr) (y : Ev) (va : Option Addr) (vc : Nat) (L2 : Blks) (b2 : Bool) (hb2 : (y.k == 2) = b2) (hac : T.ac.length ≤ 10000) (HRA : Hid (Row accC 6 83 T.ac (.slice va T.ac.length vc) L2)) (HO : Hid (base.Own u0 w ((ba, 83, [.int .i64 k, .int .i64 y.k, .int .i64 y.ob, .int .i64 y.va, .bool (false), .bool false]) :: (be, 51, [.int .i64 ((y).k), .int .i64 ((y).th), .int .i64 ((y).tx), .int .i64 ((y).at_), .int .i64 ((y).ob), .int .i64 ((y).va), .int .i64 ((y).re)]) :: (bt, 59, trC T (.slice va T.ac.length vc)) :: L2))) {v0 v1 v2 v3 v4 v6 v10 v11 v12 v13 v14 v15 v16 v17 v18 v19 v20 v21 v22 v23 v24 v25 v26 v27 v28 v29 v30 v31 v32 v33 v34 v35 v36 v37 v38 v39 v40 v41 v42 v43 v44 v45 v46 v47 v48 v49 v50 v51 v52 v53 v54 v55 v56 v57 v58 v59 v60 v61 v62 v63 v64 v65 v66 v67 v68 v69 v70 v71 v72 v73 v74 v75 v76 v77 v78 v79 v80 v81 v82 v83 v84 v85 v86 v87 v88 v89 v90 v91 v92 v93 v94 v95 v96 v97 v98 v99 v100 v101 v102 v103 v104 v105 v106 v107 v108 v109 v110 v111 v112 v113 v114 v115 v116 v117 v118 v119 v120 v121 v122 v123 v124 v125 v126 v127 v128 v129 v130 v131 v132 v133 v134 v135 v136 v137 v138 v139 v140 v141 v142 v143 v144 v145 v146 v147 v148 v149 v150 v151 v152 v153 v154 v155 v156 v157 v158 v159 v160 v161 v162 v163 v164 v165 v166 v167 v168 v169 v170 v171 : Value} {Q : Exit → Act → World → Prop}
    (hJ : ∀ (u9 u82 u83 u84 u85 u86 u87 u88 u89 u90 u91 u92 u93 u94 u95 u96 u97 u98 u99 u100 u101 u102 u103 u104 u105 u106 u107 u108 u109 u110 u111 u112 u113 u114 u115 u116 : Value) (w' : World), Hid (base.Own u0 w' ((ba, 83, [.int .i64 k, .int .i64 y.k, .int .i64 y.ob, .int .i64 y.va, .bool (b2 && wrote T.ac y.ob), .bool false]) :: (be, 51, [.int .i64 ((y).k), .int .i64 ((y).th), .int .i64 ((y).tx), .int .i64 ((y).at_), .int .i64 ((y).ob), .int .i64 ((y).va), .int .i64 ((y).re)]) :: (bt, 59, trC T (.slice va T.ac.length vc)) :: L2)) → Q Exit.normal { tmps := #[v0, v1, v2, v3, v4, .pointer (some ⟨bt, 0, none⟩), v6, .pointer (some ⟨be, 0, none⟩), .pointer (some ⟨ba, 0, none⟩), u9, v10, v11, v12, v13, v14, v15, v16, v17, v18, v19, v20, v21, v22, v23, v24, v25, v26, v27, v28, v29, v30, v31, v32, v33, v34, v35, v36, v37, v38, v39, v40, v41, v42, v43, v44, v45, v46, v47, v48, v49, v50, v51, v52, v53, v54, v55, v56, v57, v58, v59, v60, v61, v62, v63, v64, v65, v66, v67, v68, v69, v70, v71, v72, v73, v74, v75, v76, v77, v78, v79, v80, v81, u82, u83, u84, u85, u86, u87, u88, u89, u90, u91, u92, u93, u94, u95, u96, u97, u98, u99, u100, u101, u102, u103, u104, u105, u106, u107, u108, u109, u110, u111, u112, u113, u114, u115, u116, v117, v118, v119, v120, v121, v122, v123, v124, v125, v126, v127, v128, v129, v130, v131, v132, v133, v134, v135, v136, v137, v138, v139, v140, v141, v142, v143, v144, v145, v146, v147, v148, v149, v150, v151, v152, v153, v154, v155, v156, v157, v158, v159, v160, v161, v162, v163, v164, v165, v166, v167, v168, v169, v170, v171], defers := [] } w') :
    Code.wp Try.prog (pcs Try.f24 [1, 1, 0, 1, 0, 0, 1, 0, 0, 1, 1, 0, 1, 0, 0, 1, 0, 0, 1, 1, 1, 0, 1, 0, 1, 0, 1, 0]) (Exit.inBlock 5 Q) { tmps := #[v0, v1, v2, v3, v4, .pointer (some ⟨bt, 0, none⟩), v6, .pointer (some ⟨be, 0, none⟩), .pointer (some ⟨ba, 0, none⟩), .int .i64 0, v10, v11, v12, v13, v14, v15, v16, v17, v18, v19, v20, v21, v22, v23, v24, v25, v26, v27, v28, v29, v30, v31, v32, v33, v34, v35, v36, v37, v38, v39, v40, v41, v42, v43, v44, v45, v46, v47, v48, v49, v50, v51, v52, v53, v54, v55, v56, v57, v58, v59, v60, v61, v62, v63, v64, v65, v66, v67, v68, v69, v70, v71, v72, v73, v74, v75, v76, v77, v78, v79, v80, v81, v82, v83, v84, v85, v86, v87, v88, v89, v90, v91, v92, v93, v94, v95, v96, v97, v98, v99, v100, v101, v102, v103, v104, v105, v106, v107, v108, v109, v110, v111, v112, v113, v114, v115, v116, v117, v118, v119, v120, v121, v122, v123, v124, v125, v126, v127, v128, v129, v130, v131, v132, v133, v134, v135, v136, v137, v138, v139, v140, v141, v142, v143, v144, v145, v146, v147, v148, v149, v150, v151, v152, v153, v154, v155, v156, v157, v158, v159, v160, v161, v162, v163, v164, v165, v166, v167, v168, v169, v170, v171], defers := [] } w := by
  dsimp only
  conv => arg 2; whnf
  have HJ := Lib.hid hJ
  clear hJ
  have hk0 : T.ac.length < 1000000 := by omega
  cases b2 with
  | false =>
    go_loopw [9] (fun nv wr => ∃ n : Nat, n ≤ T.ac.length ∧ nv = .int .i64 n ∧ Hid (base.Own u0 wr ((ba, 83, [.int .i64 k, .int .i64 y.k, .int .i64 y.ob, .int .i64 y.va, .bool (false), .bool false]) :: (be, 51, [.int .i64 ((y).k), .int .i64 ((y).th), .int .i64 ((y).tx), .int .i64 ((y).at_), .int .i64 ((y).ob), .int .i64 ((y).va), .int .i64 ((y).re)]) :: (bt, 59, trC T (.slice va T.ac.length vc)) :: L2))) (fun nv _ => (T.ac.length - intOf nv).toNat)
    case atStart => exact ⟨0, by omega, rfl, HO⟩
    case round =>
      obtain ⟨n, hn, rfl, OR⟩ := hrel
      have x0 := OR.out.cell 0 0 rfl rfl; have x1 := OR.out.cell 0 1 rfl rfl; have x2 := OR.out.cell 0 2 rfl rfl; have x3 := OR.out.cell 0 3 rfl rfl; have x4 := OR.out.cell 0 4 rfl rfl; have x5 := OR.out.cell 0 5 rfl rfl; have y0 := OR.out.cell 1 0 rfl rfl; have y1 := OR.out.cell 1 1 rfl rfl; have y2 := OR.out.cell 1 2 rfl rfl; have y3 := OR.out.cell 1 3 rfl rfl; have y4 := OR.out.cell 1 4 rfl rfl; have y5 := OR.out.cell 1 5 rfl rfl; have y6 := OR.out.cell 1 6 rfl rfl; have t0 := OR.out.cell 2 0 rfl rfl; have t1 := OR.out.cell 2 1 rfl rfl; have t2 := OR.out.cell 2 2 rfl rfl; have t3 := OR.out.cell 2 3 rfl rfl; have t4 := OR.out.cell 2 4 rfl rfl; have t5 := OR.out.cell 2 5 rfl rfl; have t6 := OR.out.cell 2 6 rfl rfl; have t7 := OR.out.cell 2 7 rfl rfl; have t8 := OR.out.cell 2 8 rfl rfl
      have fx4 := OR.out.free 0 4 rfl
      by_cases hnl : n < T.ac.length
      · obtain ⟨a2, c2, hv2, HI⟩ := HRA.out.isL accC_len (own_flip (A := [_, _, _]) OR.out)
        cases hv2
        obtain ⟨gb, oo, rfl, hgb, z0, z1, z2, z3, z4, z5⟩ := accAt HI (List.getElem?_eq_getElem hnl)
        have WT := Lib.hid (wrote_take (List.getElem?_eq_getElem hnl) y.ob)
        generalize T.ac[n] = X at *
        have hnl' : (n : Int) < (T.ac.length : Int) := by omega
        have hn6 : (n : Int) < 1000000 := by omega
        go_wp2_with fail
        go_region
        have OZ := Lib.hid ((OR.out.set 0 4 (.bool false) rfl).drew)
        go_wp2
        go_roundw
        case rel => exact ⟨n + 1, by omega, by go_num, by show _; exact OZ.out⟩
        case measure => simp [intOf] <;> omega
      · obtain rfl : n = T.ac.length := by omega
        go_wp2
        exact HJ.out _ _ _ _ _ _ _ _ _ _ _ _ _ _ _ _ _ _ _ _ _ _ _ _ _ _ _ _ _ _ _ _ _ _ _ _ _ OR
  | true =>
    go_loopw [9] (fun nv wr => ∃ n : Nat, n ≤ T.ac.length ∧ nv = .int .i64 n ∧ Hid (base.Own u0 wr ((ba, 83, [.int .i64 k, .int .i64 y.k, .int .i64 y.ob, .int .i64 y.va, .bool (wrote (T.ac.take n) y.ob), .bool false]) :: (be, 51, [.int .i64 ((y).k), .int .i64 ((y).th), .int .i64 ((y).tx), .int .i64 ((y).at_), .int .i64 ((y).ob), .int .i64 ((y).va), .int .i64 ((y).re)]) :: (bt, 59, trC T (.slice va T.ac.length vc)) :: L2))) (fun nv _ => (T.ac.length - intOf nv).toNat)
    case atStart => exact ⟨0, by omega, rfl, HO⟩
    case round =>
      obtain ⟨n, hn, rfl, OR⟩ := hrel
      have x0 := OR.out.cell 0 0 rfl rfl; have x1 := OR.out.cell 0 1 rfl rfl; have x2 := OR.out.cell 0 2 rfl rfl; have x3 := OR.out.cell 0 3 rfl rfl; have x4 := OR.out.cell 0 4 rfl rfl; have x5 := OR.out.cell 0 5 rfl rfl; have y0 := OR.out.cell 1 0 rfl rfl; have y1 := OR.out.cell 1 1 rfl rfl; have y2 := OR.out.cell 1 2 rfl rfl; have y3 := OR.out.cell 1 3 rfl rfl; have y4 := OR.out.cell 1 4 rfl rfl; have y5 := OR.out.cell 1 5 rfl rfl; have y6 := OR.out.cell 1 6 rfl rfl; have t0 := OR.out.cell 2 0 rfl rfl; have t1 := OR.out.cell 2 1 rfl rfl; have t2 := OR.out.cell 2 2 rfl rfl; have t3 := OR.out.cell 2 3 rfl rfl; have t4 := OR.out.cell 2 4 rfl rfl; have t5 := OR.out.cell 2 5 rfl rfl; have t6 := OR.out.cell 2 6 rfl rfl; have t7 := OR.out.cell 2 7 rfl rfl; have t8 := OR.out.cell 2 8 rfl rfl
      have fx4 := OR.out.free 0 4 rfl
      by_cases hnl : n < T.ac.length
      · obtain ⟨a2, c2, hv2, HI⟩ := HRA.out.isL accC_len (own_flip (A := [_, _, _]) OR.out)
        cases hv2
        obtain ⟨gb, oo, rfl, hgb, z0, z1, z2, z3, z4, z5⟩ := accAt HI (List.getElem?_eq_getElem hnl)
        have WT := Lib.hid (wrote_take (List.getElem?_eq_getElem hnl) y.ob)
        generalize T.ac[n] = X at *
        have hnl' : (n : Int) < (T.ac.length : Int) := by omega
        have hn6 : (n : Int) < 1000000 := by omega
        obtain ⟨W0, hW0⟩ : ∃ W0, W0 = wrote (T.ac.take n) y.ob := ⟨_, rfl⟩
        rw [← hW0] at OR WT x4
        clear hW0
        cases W0 with
        | true =>
          have HW := Lib.hid (show wrote (T.ac.take (n + 1)) y.ob = true by rw [WT.out, Bool.true_or])
          go_wp2_with fail
          go_region
          have OZ := Lib.hid ((OR.out.set 0 4 (.bool true) rfl).drew)
          go_wp2
          go_roundw
          case rel => exact ⟨n + 1, by omega, by go_num, by rw [HW.out]; exact OZ.out⟩
          case measure => simp [intOf] <;> omega
        | false =>
          by_cases h3 : X.k = 3
          · have f3 : (X.k == 3) = true := by simp [h3]
            by_cases ho : X.ob = y.ob
            · have fo : (X.ob == y.ob) = true := by simp [ho]
              have HW := Lib.hid (show wrote (T.ac.take (n + 1)) y.ob = true by rw [WT.out]; simp [h3, ho])
              clear h3 ho WT
              go_wp2_with fail
              go_region
              have OZ := Lib.hid ((OR.out.set 0 4 (.bool true) rfl).drew)
              go_wp2
              go_roundw
              case rel => exact ⟨n + 1, by omega, by go_num, by rw [HW.out]; exact OZ.out⟩
              case measure => simp [intOf] <;> omega
            · have fo : (X.ob == y.ob) = false := by simp [ho]
              have HW := Lib.hid (show wrote (T.ac.take (n + 1)) y.ob = false by rw [WT.out]; simp [ho])
              clear h3 ho WT
              go_wp2_with fail
              go_region
              have OZ := Lib.hid ((OR.out.set 0 4 (.bool false) rfl).drew)
              go_wp2
              go_roundw
              case rel => exact ⟨n + 1, by omega, by go_num, by rw [HW.out]; exact OZ.out⟩
              case measure => simp [intOf] <;> omega
          · have f3 : (X.k == 3) = false := by simp [h3]
            have HW := Lib.hid (show wrote (T.ac.take (n + 1)) y.ob = false by rw [WT.out]; simp [h3])
            clear h3 WT
            go_wp2_with fail
            go_region
            have OZ := Lib.hid ((OR.out.set 0 4 (.bool false) rfl).drew)
            go_wp2
            go_roundw
            case rel => exact ⟨n + 1, by omega, by go_num, by rw [HW.out]; exact OZ.out⟩
            case measure => simp [intOf] <;> omega
      · obtain rfl : n = T.ac.length := by omega
        rw [wrote_all] at OR
        go_wp2
        exact HJ.out _ _ _ _ _ _ _ _ _ _ _ _ _ _ _ _ _ _ _ _ _ _ _ _ _ _ _ _ _ _ _ _ _ _ _ _ _ OR
end Go.Proofs.Ytkidkhjpijjphaa.hs

/- The document's Tries: region 20. A theorem of its own over that piece of the code. -/
namespace Go.Proofs.Ytkidkhjpijjphaa.hs
open Go Go.RowKit Go.Proofs.Ytkidkhjpijjphaa.base Go.Maps
set_option linter.unusedVariables false
set_option maxRecDepth 100000

theorem infoAccD : (Try.prog.info? 83).map (fun i => (i.zero, i.size, i.bytes)) = some (some (.agg #[.int .i64 0, .int .i64 0, .int .i64 0, .int .i64 0, .bool false, .bool false]), 6, 40) := by kernel_rfl

set_option maxHeartbeats 4000000 in
theorem piece20 (w : World) (u0 : World) (bt be ba k : Nat) (T : Tr) (y : Ev) (o : Bool) (va : Option Addr) (vc : Nat) (L2 : Blks) (hac : T.ac.length ≤ 10000) (HRA : Hid (Row accC 6 83 T.ac (.slice va T.ac.length vc) L2)) (HO : Hid (base.Own u0 w ((ba, 83, [.int .i64 k, .int .i64 y.k, .int .i64 y.ob, .int .i64 y.va, .bool (o), .bool false]) :: (be, 51, [.int .i64 ((y).k), .int .i64 ((y).th), .int .i64 ((y).tx), .int .i64 ((y).at_), .int .i64 ((y).ob), .int .i64 ((y).va), .int .i64 ((y).re)]) :: (bt, 59, trC T (.slice va T.ac.length vc)) :: L2))) {v0 v1 v2 v3 v4 v6 v7 v9 v10 v11 v12 v13 v14 v15 v16 v17 v18 v19 v20 v21 v22 v23 v24 v25 v26 v27 v28 v29 v30 v31 v32 v33 v34 v35 v36 v37 v38 v39 v40 v41 v42 v43 v44 v45 v46 v47 v48 v49 v50 v51 v52 v53 v54 v55 v56 v57 v58 v59 v60 v61 v62 v63 v64 v65 v66 v67 v68 v69 v70 v71 v72 v73 v74 v75 v76 v77 v78 v79 v80 v81 v82 v83 v84 v85 v86 v87 v88 v89 v90 v91 v92 v93 v94 v95 v96 v97 v98 v99 v100 v101 v102 v103 v104 v105 v106 v107 v108 v109 v110 v111 v112 v113 v114 v115 v116 v117 v118 v119 v120 v121 v122 v123 v124 v125 v126 v127 v128 v129 v130 v131 v132 v133 v134 v135 v136 v137 v138 v139 v140 v141 v142 v143 v144 v145 v146 v147 v148 v149 v150 v151 v152 v153 v154 v155 v156 v157 v158 v159 v160 v161 v162 v163 v164 v165 v166 v167 v168 v169 v170 v171 : Value} {Q : Exit → Act → World → Prop}
    (hJ : ∀ (u117 u118 u119 u120 u121 u122 : Value) (g' c' : Nat) (L3 : Blks) (w' : World), Hid (Row accC 6 83 (T.ac ++ [(⟨k, y.k, y.ob, y.va, o, false⟩ : Acc)]) (.slice (some ⟨g', 0, none⟩) (T.ac.length + 1) c') L3) → Hid (base.Own u0 w' ((ba, 83, [.int .i64 k, .int .i64 y.k, .int .i64 y.ob, .int .i64 y.va, .bool (o), .bool false]) :: (be, 51, [.int .i64 ((y).k), .int .i64 ((y).th), .int .i64 ((y).tx), .int .i64 ((y).at_), .int .i64 ((y).ob), .int .i64 ((y).va), .int .i64 ((y).re)]) :: (bt, 59, trC T (.slice (some ⟨g', 0, none⟩) (T.ac.length + 1) c')) :: L3)) → Q Exit.normal { tmps := #[v0, v1, v2, v3, v4, .pointer (some ⟨bt, 0, none⟩), v6, v7, .pointer (some ⟨ba, 0, none⟩), v9, v10, v11, v12, v13, v14, v15, v16, v17, v18, v19, v20, v21, v22, v23, v24, v25, v26, v27, v28, v29, v30, v31, v32, v33, v34, v35, v36, v37, v38, v39, v40, v41, v42, v43, v44, v45, v46, v47, v48, v49, v50, v51, v52, v53, v54, v55, v56, v57, v58, v59, v60, v61, v62, v63, v64, v65, v66, v67, v68, v69, v70, v71, v72, v73, v74, v75, v76, v77, v78, v79, v80, v81, v82, v83, v84, v85, v86, v87, v88, v89, v90, v91, v92, v93, v94, v95, v96, v97, v98, v99, v100, v101, v102, v103, v104, v105, v106, v107, v108, v109, v110, v111, v112, v113, v114, v115, v116, u117, u118, u119, u120, u121, u122, v123, v124, v125, v126, v127, v128, v129, v130, v131, v132, v133, v134, v135, v136, v137, v138, v139, v140, v141, v142, v143, v144, v145, v146, v147, v148, v149, v150, v151, v152, v153, v154, v155, v156, v157, v158, v159, v160, v161, v162, v163, v164, v165, v166, v167, v168, v169, v170, v171], defers := [] } w') :
    Code.wp Try.prog (pcs Try.f24 [1, 1, 0, 1, 0, 0, 1, 0, 0, 1, 1, 0, 1, 0, 0, 1, 0, 0, 1, 1, 1, 0, 1, 0, 1, 1]) (Q) { tmps := #[v0, v1, v2, v3, v4, .pointer (some ⟨bt, 0, none⟩), v6, v7, .pointer (some ⟨ba, 0, none⟩), v9, v10, v11, v12, v13, v14, v15, v16, v17, v18, v19, v20, v21, v22, v23, v24, v25, v26, v27, v28, v29, v30, v31, v32, v33, v34, v35, v36, v37, v38, v39, v40, v41, v42, v43, v44, v45, v46, v47, v48, v49, v50, v51, v52, v53, v54, v55, v56, v57, v58, v59, v60, v61, v62, v63, v64, v65, v66, v67, v68, v69, v70, v71, v72, v73, v74, v75, v76, v77, v78, v79, v80, v81, v82, v83, v84, v85, v86, v87, v88, v89, v90, v91, v92, v93, v94, v95, v96, v97, v98, v99, v100, v101, v102, v103, v104, v105, v106, v107, v108, v109, v110, v111, v112, v113, v114, v115, v116, v117, v118, v119, v120, v121, v122, v123, v124, v125, v126, v127, v128, v129, v130, v131, v132, v133, v134, v135, v136, v137, v138, v139, v140, v141, v142, v143, v144, v145, v146, v147, v148, v149, v150, v151, v152, v153, v154, v155, v156, v157, v158, v159, v160, v161, v162, v163, v164, v165, v166, v167, v168, v169, v170, v171], defers := [] } w := by
  dsimp only
  conv => arg 2; whnf
  obtain ⟨i0, hi0, hz00, hz10, hz20⟩ := info_parts infoAccD
  have hi := Lib.hid hi0
  have hz0 := Lib.hid hz00
  have hz1 := Lib.hid hz10
  have hz2 := Lib.hid hz20
  clear hi0 hz00 hz10 hz20
  have x0 := HO.out.cell 0 0 rfl rfl; have x1 := HO.out.cell 0 1 rfl rfl; have x2 := HO.out.cell 0 2 rfl rfl; have x3 := HO.out.cell 0 3 rfl rfl; have x4 := HO.out.cell 0 4 rfl rfl; have x5 := HO.out.cell 0 5 rfl rfl; have t0 := HO.out.cell 2 0 rfl rfl; have t1 := HO.out.cell 2 1 rfl rfl; have t2 := HO.out.cell 2 2 rfl rfl; have t3 := HO.out.cell 2 3 rfl rfl; have t4 := HO.out.cell 2 4 rfl rfl; have t5 := HO.out.cell 2 5 rfl rfl; have t6 := HO.out.cell 2 6 rfl rfl; have t7 := HO.out.cell 2 7 rfl rfl; have t8 := HO.out.cell 2 8 rfl rfl
  have HOWN := Lib.hid (HRA.out.owns accC_len (own_flip (A := [_, _, _]) HO.out))
  have hb2 := HO.out.grow.size
  have hk0 : (T.ac.length : Int) < 1000000 := by omega
  go_wp2_with (first | (at_builtin; refine wpList_append_at _ rfl (.tmp 118) (.tmp 120) 57 rfl u0.heap.size 83 i0 (.agg #[.int .i64 0, .int .i64 0, .int .i64 0, .int .i64 0, .bool false, .bool false]) 6 40 Try.underlying57 hi.out hz0.out hz1.out hz2.out rfl (by decide) (.slice va T.ac.length vc) T.ac.length (rows accC T.ac) rfl (HOWN.out.alloc _) ⟨w.heap.size, 0, none⟩ 1 1 (accC (⟨k, y.k, y.ob, y.va, o, false⟩ : Acc)) rfl rfl (new_cells w _ _) (accC_one [(⟨k, y.k, y.ob, y.va, o, false⟩ : Acc)]) (by unfold maxLen; omega) (by omega) (by simp; omega) (by decide) ?_; intro g' c' w5 ho hg hv; obtain ⟨L3, r1, r2⟩ := base.Row.snoc (x := (⟨k, y.k, y.ob, y.va, o, false⟩ : Acc)) HRA.out (own_flip (A := [_, _, _]) HO.out) (World.grownBy_alloc w _ none) ho hg hv; have R1 := Lib.hid r1; have R2 := Lib.hid (own_flip (B := [_, _, _]) r2); have c8 := R2.out.cell 2 8 rfl rfl; have f8 := R2.out.free 2 8 rfl; clear ho hg hv r1 r2) | go_in)
  exact hJ _ _ _ _ _ _ g' c' L3 _ R1 (R2.out.set 2 8 (.slice (some ⟨g', 0, none⟩) (T.ac.length + 1) c') rfl)
end Go.Proofs.Ytkidkhjpijjphaa.hs

/- The document's Tries: loop 4: what is released. A theorem of its own over that piece of the code. -/
namespace Go.Proofs.Ytkidkhjpijjphaa.hs
open Go Go.RowKit Go.Proofs.Ytkidkhjpijjphaa.base Go.Maps
set_option linter.unusedVariables false
set_option maxRecDepth 100000

set_option maxHeartbeats 4000000 in
theorem piece4 (w : World) (u0 : World) (bt be : Nat) (T : Tr) (y : Ev) (va : Option Addr) (vc : Nat) (L2 : Blks) (hac : T.ac.length ≤ 10000) (HRA : Hid (Row accC 6 83 T.ac (.slice va T.ac.length vc) L2)) (HO : Hid (base.Own u0 w ((be, 51, [.int .i64 ((y).k), .int .i64 ((y).th), .int .i64 ((y).tx), .int .i64 ((y).at_), .int .i64 ((y).ob), .int .i64 ((y).va), .int .i64 ((y).re)]) :: (bt, 59, trC T (.slice va T.ac.length vc)) :: L2))) {v0 v1 v2 v3 v4 v6 v8 v9 v11 v12 v13 v14 v15 v16 v17 v18 v19 v20 v21 v22 v23 v24 v25 v26 v27 v28 v29 v30 v31 v32 v33 v34 v35 v36 v37 v38 v39 v40 v41 v42 v43 v44 v45 v46 v47 v48 v49 v50 v51 v52 v53 v54 v55 v56 v57 v58 v59 v60 v61 v62 v63 v64 v65 v66 v67 v68 v69 v70 v71 v72 v73 v74 v75 v76 v77 v78 v79 v80 v81 v82 v83 v84 v85 v86 v87 v88 v89 v90 v91 v92 v93 v94 v95 v96 v97 v98 v99 v100 v101 v102 v103 v104 v105 v106 v107 v108 v109 v110 v111 v112 v113 v114 v115 v116 v117 v118 v119 v120 v121 v122 v123 v124 v125 v126 v127 v128 v129 v130 v131 v132 v133 v134 v135 v136 v137 v138 v139 v140 v141 v142 v143 v144 v145 v146 v147 v148 v149 v150 v151 v152 v153 v154 v155 v156 v157 v158 v159 v160 v161 v162 v163 v164 v165 v166 v167 v168 v169 v170 v171 : Value} {Q : Exit → Act → World → Prop}
    (hJ : ∀ (u10 u125 u126 u127 u128 u129 u130 u131 u132 u133 u134 u135 u136 u137 u138 u139 u140 u141 u142 u143 u144 u145 u146 u147 u148 u149 u150 u151 u152 u153 u154 : Value) (L4 : Blks) (w' : World), Hid (Row accC 6 83 (relAll T.ac y.ob) (.slice va T.ac.length vc) L4) → Hid (base.Own u0 w' ((be, 51, [.int .i64 ((y).k), .int .i64 ((y).th), .int .i64 ((y).tx), .int .i64 ((y).at_), .int .i64 ((y).ob), .int .i64 ((y).va), .int .i64 ((y).re)]) :: (bt, 59, trC T (.slice va T.ac.length vc)) :: L4)) → Q Exit.normal { tmps := #[v0, v1, v2, v3, v4, .pointer (some ⟨bt, 0, none⟩), v6, .pointer (some ⟨be, 0, none⟩), v8, v9, u10, v11, v12, v13, v14, v15, v16, v17, v18, v19, v20, v21, v22, v23, v24, v25, v26, v27, v28, v29, v30, v31, v32, v33, v34, v35, v36, v37, v38, v39, v40, v41, v42, v43, v44, v45, v46, v47, v48, v49, v50, v51, v52, v53, v54, v55, v56, v57, v58, v59, v60, v61, v62, v63, v64, v65, v66, v67, v68, v69, v70, v71, v72, v73, v74, v75, v76, v77, v78, v79, v80, v81, v82, v83, v84, v85, v86, v87, v88, v89, v90, v91, v92, v93, v94, v95, v96, v97, v98, v99, v100, v101, v102, v103, v104, v105, v106, v107, v108, v109, v110, v111, v112, v113, v114, v115, v116, v117, v118, v119, v120, v121, v122, v123, v124, u125, u126, u127, u128, u129, u130, u131, u132, u133, u134, u135, u136, u137, u138, u139, u140, u141, u142, u143, u144, u145, u146, u147, u148, u149, u150, u151, u152, u153, u154, v155, v156, v157, v158, v159, v160, v161, v162, v163, v164, v165, v166, v167, v168, v169, v170, v171], defers := [] } w') :
    Code.wp Try.prog (pcs Try.f24 [1, 1, 0, 1, 0, 0, 1, 0, 0, 1, 1, 0, 1, 0, 0, 1, 0, 0, 1, 1, 1, 0, 1, 1, 1, 0, 1, 0]) (Exit.inBlock 7 Q) { tmps := #[v0, v1, v2, v3, v4, .pointer (some ⟨bt, 0, none⟩), v6, .pointer (some ⟨be, 0, none⟩), v8, v9, .int .i64 0, v11, v12, v13, v14, v15, v16, v17, v18, v19, v20, v21, v22, v23, v24, v25, v26, v27, v28, v29, v30, v31, v32, v33, v34, v35, v36, v37, v38, v39, v40, v41, v42, v43, v44, v45, v46, v47, v48, v49, v50, v51, v52, v53, v54, v55, v56, v57, v58, v59, v60, v61, v62, v63, v64, v65, v66, v67, v68, v69, v70, v71, v72, v73, v74, v75, v76, v77, v78, v79, v80, v81, v82, v83, v84, v85, v86, v87, v88, v89, v90, v91, v92, v93, v94, v95, v96, v97, v98, v99, v100, v101, v102, v103, v104, v105, v106, v107, v108, v109, v110, v111, v112, v113, v114, v115, v116, v117, v118, v119, v120, v121, v122, v123, v124, v125, v126, v127, v128, v129, v130, v131, v132, v133, v134, v135, v136, v137, v138, v139, v140, v141, v142, v143, v144, v145, v146, v147, v148, v149, v150, v151, v152, v153, v154, v155, v156, v157, v158, v159, v160, v161, v162, v163, v164, v165, v166, v167, v168, v169, v170, v171], defers := [] } w := by
  dsimp only
  conv => arg 2; whnf
  have hk0 : (T.ac.length : Int) < 1000000 := by omega
  go_loopw [10] (fun nv wr => ∃ (n : Nat) (L4 : Blks), n ≤ T.ac.length ∧ nv = .int .i64 n ∧ Hid (Row accC 6 83 (relN T.ac y.ob n) (.slice va T.ac.length vc) L4) ∧ Hid (base.Own u0 wr ((be, 51, [.int .i64 ((y).k), .int .i64 ((y).th), .int .i64 ((y).tx), .int .i64 ((y).at_), .int .i64 ((y).ob), .int .i64 ((y).va), .int .i64 ((y).re)]) :: (bt, 59, trC T (.slice va T.ac.length vc)) :: L4))) (fun nv _ => (T.ac.length - intOf nv).toNat)
  case atStart => exact ⟨0, L2, by omega, rfl, by rw [relN_zero]; exact HRA, HO⟩
  case round =>
    obtain ⟨n, L4, hn, rfl, HR4, OR⟩ := hrel
    have y0 := OR.out.cell 0 0 rfl rfl; have y1 := OR.out.cell 0 1 rfl rfl; have y2 := OR.out.cell 0 2 rfl rfl; have y3 := OR.out.cell 0 3 rfl rfl; have y4 := OR.out.cell 0 4 rfl rfl; have y5 := OR.out.cell 0 5 rfl rfl; have y6 := OR.out.cell 0 6 rfl rfl; have t0 := OR.out.cell 1 0 rfl rfl; have t1 := OR.out.cell 1 1 rfl rfl; have t2 := OR.out.cell 1 2 rfl rfl; have t3 := OR.out.cell 1 3 rfl rfl; have t4 := OR.out.cell 1 4 rfl rfl; have t5 := OR.out.cell 1 5 rfl rfl; have t6 := OR.out.cell 1 6 rfl rfl; have t7 := OR.out.cell 1 7 rfl rfl; have t8 := OR.out.cell 1 8 rfl rfl
    by_cases hnl : n < T.ac.length
    · obtain ⟨g, cp, hv2⟩ := HR4.out.some (by rw [relN_len]; omega)
      rw [relN_len] at hv2
      cases hv2
      obtain ⟨a2, c2, hv2, HI⟩ := HR4.out.isL accC_len (own_flip (A := [_, _]) OR.out)
      rw [relN_len] at hv2
      cases hv2
      obtain ⟨gb, oo, hgo, hgb, z0, z1, z2, z3, z4, z5⟩ := accAt HI (relN_get hnl)
      cases hgo
      rw [Nat.zero_add] at z0 z1 z2 z3 z4 z5
      have f5 := row_free HR4.out (relN_len _ _ _).symm (own_flip (A := [_, _]) OR.out) (n * 6 + 5)
      have ST := Lib.hid (relN_step (o := y.ob) hnl)
      have RM := Lib.hid (row_mark HR4.out (relN_len _ _ _).symm (own_flip (A := [_, _]) OR.out.drew) (by rw [relN_len]; exact hnl))
      generalize T.ac[n] = X at *
      have hnl' : (n : Int) < (T.ac.length : Int) := by omega
      have hn6 : (n : Int) < 1000000 := by omega
      by_cases h2 : X.k = 2
      · have f2x : (X.k == 2) = true := by simp [h2]
        by_cases ho : X.ob = y.ob
        · have fo : (X.ob == y.ob) = true := by simp [ho]
          have HW := Lib.hid (show relN T.ac y.ob (n + 1) = setRel (relN T.ac y.ob n) n by rw [ST.out, if_pos ⟨h2, ho⟩])
          clear h2 ho
          go_wp2_with fail
          go_big_quiet (fail)
          have RN := Lib.hid (row_mark HR4.out (relN_len _ _ _).symm (own_flip (A := [_, _]) (OR.out.drewN nq)) (by rw [relN_len]; exact hnl))
          go_wp2
          obtain ⟨L5, r1, r2⟩ := RN.out
          go_roundw
          case rel => exact ⟨n + 1, L5, by omega, by go_num, by rw [HW.out]; exact r1, own_flip (B := [_, _]) r2⟩
          case measure => simp [intOf] <;> omega
        · have fo : (X.ob == y.ob) = false := by simp [ho]
          have HW := Lib.hid (show relN T.ac y.ob (n + 1) = relN T.ac y.ob n by rw [ST.out, if_neg (fun h => ho h.2)])
          clear h2 ho
          go_wp2_with fail
          go_big_quiet (fail)
          go_wp2
          go_roundw
          case rel => exact ⟨n + 1, L4, by omega, by go_num, by rw [HW.out]; exact HR4, Lib.hid (OR.out.drewN _)⟩
          case measure => simp [intOf] <;> omega
      · have f2x : (X.k == 2) = false := by simp [h2]
        have HW := Lib.hid (show relN T.ac y.ob (n + 1) = relN T.ac y.ob n by rw [ST.out, if_neg (fun h => h2 h.1)])
        clear h2
        go_wp2_with fail
        go_big_quiet (fail)
        go_wp2
        go_roundw
        case rel => exact ⟨n + 1, L4, by omega, by go_num, by rw [HW.out]; exact HR4, Lib.hid (OR.out.drewN _)⟩
        case measure => simp [intOf] <;> omega
    · obtain rfl : n = T.ac.length := by omega
      rw [relN_all] at HR4
      go_wp2
      exact hJ _ _ _ _ _ _ _ _ _ _ _ _ _ _ _ _ _ _ _ _ _ _ _ _ _ _ _ _ _ _ _ L4 _ HR4 OR
end Go.Proofs.Ytkidkhjpijjphaa.hs

/- The document's Tries: loop 2. A theorem of its own over that piece of the code. -/
namespace Go.Proofs.Ytkidkhjpijjphaa.hs
open Go Go.RowKit Go.Proofs.Ytkidkhjpijjphaa.base Go.Maps
set_option linter.unusedVariables false
set_option maxRecDepth 100000

set_option maxHeartbeats 4000000 in
theorem piece2 (w u0 : World) (eb off len cap : Nat) (e : Evs) (i bt : Nat) (hl : IsEvs u0 (some ⟨eb, off, none⟩) len e) (hr : right e len = true) (hlt : i < len) (h1 : (e i).k = 1) (hlen : len ≤ 10000) (HO : Hid (base.Own u0 w [(bt, 59, trC (init i (e i)) (.slice none 0 0))])) {v1 v2 v3 v7 v8 v9 v10 v11 v12 v13 v14 v15 v16 v17 v18 v19 v20 v21 v22 v23 v24 v25 v26 v27 v28 v29 v30 v31 v32 v33 v34 v35 v36 v37 v38 v39 v40 v41 v42 v43 v44 v45 v46 v47 v48 v49 v50 v51 v52 v53 v54 v55 v56 v57 v58 v59 v60 v61 v62 v63 v64 v65 v66 v67 v68 v69 v70 v71 v72 v73 v74 v75 v76 v77 v78 v79 v80 v81 v82 v83 v84 v85 v86 v87 v88 v89 v90 v91 v92 v93 v94 v95 v96 v97 v98 v99 v100 v101 v102 v103 v104 v105 v106 v107 v108 v109 v110 v111 v112 v113 v114 v115 v116 v117 v118 v119 v120 v121 v122 v123 v124 v125 v126 v127 v128 v129 v130 v131 v132 v133 v134 v135 v136 v137 v138 v139 v140 v141 v142 v143 v144 v145 v146 v147 v148 v149 v150 v151 v152 v153 v154 v155 v156 v157 v158 v159 v160 v161 v162 v163 v164 v165 v166 v167 v168 v169 v170 v171 : Value} {Q : Exit → Act → World → Prop}
    (hJ : ∀ (u6 u7 u8 u9 u10 u47 u48 u49 u50 u51 u52 u53 u54 u55 u56 u57 u58 u59 u60 u61 u62 u63 u64 u65 u66 u67 u68 u69 u70 u71 u72 u73 u74 u75 u76 u77 u78 u79 u80 u81 u82 u83 u84 u85 u86 u87 u88 u89 u90 u91 u92 u93 u94 u95 u96 u97 u98 u99 u100 u101 u102 u103 u104 u105 u106 u107 u108 u109 u110 u111 u112 u113 u114 u115 u116 u117 u118 u119 u120 u121 u122 u123 u124 u125 u126 u127 u128 u129 u130 u131 u132 u133 u134 u135 u136 u137 u138 u139 u140 u141 u142 u143 u144 u145 u146 u147 u148 u149 u150 u151 u152 u153 u154 u155 u156 u157 u158 u159 u160 u161 u162 u163 u164 u165 u166 : Value) (v : Value) (L2 : Blks) (w' : World), Hid (Row accC 6 83 (trAt e i len).ac v L2) → Hid (base.Own u0 w' ((bt, 59, trC (trAt e i len) v) :: L2)) → Q Exit.normal { tmps := #[.slice (some ⟨eb, off, none⟩) len cap, v1, v2, v3, .int .i64 i, .pointer (some ⟨bt, 0, none⟩), u6, u7, u8, u9, u10, v11, v12, v13, v14, v15, v16, v17, v18, v19, v20, v21, v22, v23, v24, v25, v26, v27, v28, v29, v30, v31, v32, v33, v34, v35, v36, v37, v38, v39, v40, v41, v42, v43, v44, v45, v46, u47, u48, u49, u50, u51, u52, u53, u54, u55, u56, u57, u58, u59, u60, u61, u62, u63, u64, u65, u66, u67, u68, u69, u70, u71, u72, u73, u74, u75, u76, u77, u78, u79, u80, u81, u82, u83, u84, u85, u86, u87, u88, u89, u90, u91, u92, u93, u94, u95, u96, u97, u98, u99, u100, u101, u102, u103, u104, u105, u106, u107, u108, u109, u110, u111, u112, u113, u114, u115, u116, u117, u118, u119, u120, u121, u122, u123, u124, u125, u126, u127, u128, u129, u130, u131, u132, u133, u134, u135, u136, u137, u138, u139, u140, u141, u142, u143, u144, u145, u146, u147, u148, u149, u150, u151, u152, u153, u154, u155, u156, u157, u158, u159, u160, u161, u162, u163, u164, u165, u166, v167, v168, v169, v170, v171], defers := [] } w') :
    Code.wp Try.prog (pcs Try.f24 [1, 1, 0, 1, 0, 0, 1, 0, 0, 1, 1, 0, 1, 0]) (Exit.inBlock 2 Q) { tmps := #[.slice (some ⟨eb, off, none⟩) len cap, v1, v2, v3, .int .i64 i, .pointer (some ⟨bt, 0, none⟩), .int .i64 ((i : Int) + 1), v7, v8, v9, v10, v11, v12, v13, v14, v15, v16, v17, v18, v19, v20, v21, v22, v23, v24, v25, v26, v27, v28, v29, v30, v31, v32, v33, v34, v35, v36, v37, v38, v39, v40, v41, v42, v43, v44, v45, v46, v47, v48, v49, v50, v51, v52, v53, v54, v55, v56, v57, v58, v59, v60, v61, v62, v63, v64, v65, v66, v67, v68, v69, v70, v71, v72, v73, v74, v75, v76, v77, v78, v79, v80, v81, v82, v83, v84, v85, v86, v87, v88, v89, v90, v91, v92, v93, v94, v95, v96, v97, v98, v99, v100, v101, v102, v103, v104, v105, v106, v107, v108, v109, v110, v111, v112, v113, v114, v115, v116, v117, v118, v119, v120, v121, v122, v123, v124, v125, v126, v127, v128, v129, v130, v131, v132, v133, v134, v135, v136, v137, v138, v139, v140, v141, v142, v143, v144, v145, v146, v147, v148, v149, v150, v151, v152, v153, v154, v155, v156, v157, v158, v159, v160, v161, v162, v163, v164, v165, v166, v167, v168, v169, v170, v171], defers := [] } w := by
  dsimp only
  conv => arg 2; whnf
  have HL := Lib.hid hl
  have HR := Lib.hid hr
  have W1 := Lib.hid h1
  have INI := Lib.hid (show trAt e i (i + 1) = init i (e i) from trAt_init e i (i + 1) (Nat.le_refl _))
  have hlen' : (len : Int) ≤ 10000 := by omega
  have HJ := Lib.hid hJ
  clear hl hr h1 hJ
  go_loopw [6] (fun kv wr => ∃ (k : Nat) (v : Value) (L2 : Blks), i + 1 ≤ k ∧ k ≤ len ∧ kv = .int .i64 k ∧ Hid (Row accC 6 83 (trAt e i k).ac v L2) ∧ Hid (base.Own u0 wr ((bt, 59, trC (trAt e i k) v) :: L2))) (fun kv _ => (len - intOf kv).toNat)
  case atStart => exact ⟨i + 1, .slice none 0 0, [], by omega, by omega, by go_num, by rw [INI.out]; exact Row.nil, by rw [INI.out]; exact HO⟩
  case round =>
    obtain ⟨k, v, L2, hk1, hk2, rfl, HRA, HOW⟩ := hrel
    obtain ⟨T, hT⟩ : ∃ T, T = trAt e i k := ⟨_, rfl⟩
    rw [← hT] at HRA HOW
    obtain ⟨va, vc, rfl⟩ := HRA.out.slice
    have hac0 : T.ac.length ≤ k := by rw [hT]; exact trAt_ac e i k
    have hk3 : (k : Int) < 1000000 := by omega
    have hac4 : T.ac.length ≤ 10000 := by omega
    have HT := Lib.hid hT
    clear hT
    have t0 := HOW.out.cell 0 0 rfl rfl; have t1 := HOW.out.cell 0 1 rfl rfl; have t2 := HOW.out.cell 0 2 rfl rfl; have t3 := HOW.out.cell 0 3 rfl rfl; have t4 := HOW.out.cell 0 4 rfl rfl; have t5 := HOW.out.cell 0 5 rfl rfl; have t6 := HOW.out.cell 0 6 rfl rfl; have t7 := HOW.out.cell 0 7 rfl rfl; have t8 := HOW.out.cell 0 8 rfl rfl
    by_cases hkl : k < len
    · have hkl' : (k : Int) < (len : Int) := by omega
      by_cases hen : T.en < 0
      · have fen : decide (T.en < 0) = true := by simpa using hen
        have STEP := Lib.hid (show trAt e i (k + 1) = if ownE (e i) (e k) = true then base.stepT T k (e k) else T by rw [HT.out]; exact doc_step e HR.out W1.out (by omega) hkl (by rw [← HT.out]; exact hen))
        have OE := Lib.hid (HOW.out.alloc 51 [.int .i64 ((e k).k), .int .i64 ((e k).th), .int .i64 ((e k).tx), .int .i64 ((e k).at_), .int .i64 ((e k).ob), .int .i64 ((e k).va), .int .i64 ((e k).re)])
        obtain ⟨c0, c1, c2, c3, c4, c5, c6⟩ := evsIn (HL.out.grown HOW.out.grow) hkl
        have heb : eb < wr.heap.size := World.block_lt_of_cell? wr _ c0
        go_upto_region 11 with fail
        generalize wr.alloc (.cells #[.int .i64 ((e k).k), .int .i64 ((e k).th), .int .i64 ((e k).tx), .int .i64 ((e k).at_), .int .i64 ((e k).ob), .int .i64 ((e k).va), .int .i64 ((e k).re)] 51) = v1 at *
        generalize wr.heap.size = be at *
        clear c0 c1 c2 c3 c4 c5 c6 t0 t1 t2 t3 t4 t5 t6 t7 t8 fen heb
        cases hq : ownE (e i) (e k) with
        | false =>
          have HS := Lib.hid (show trAt e i (k + 1) = T by rw [STEP.out, hq, if_neg (by simp)])
          refine wp_pcs (c' := pcs Try.f24 [1, 1, 0, 1, 0, 0, 1, 0, 0, 1, 1, 0, 1, 0, 0, 1, 0, 0, 1, 0, 0]) (by kernel_rfl) ?_
          refine piece11 _ eb off len cap i be (e i) (e k) false true hq rfl hlt hlen (evsIn (HL.out.grown OE.out.grow) hlt) (OE.out.get 0 rfl) ?_
          intro _ _ _ _ _ _ u3 g3
          dsimp only
          clear hq
          go_wp2
          go_roundw
          case rel => exact ⟨k + 1, .slice va T.ac.length vc, L2, by omega, by omega, by go_num, by rw [HS.out]; exact HRA.out, by rw [HS.out]; exact (OE.out.grown g3.out).drop (List.Sublist.cons _ (List.Sublist.refl _))⟩
          case measure => simp [intOf] <;> omega
        | true =>
          have HN := Lib.hid (show trAt e i (k + 1) = base.stepT T k (e k) by rw [STEP.out, hq, if_pos rfl])
          refine wp_pcs (c' := pcs Try.f24 [1, 1, 0, 1, 0, 0, 1, 0, 0, 1, 1, 0, 1, 0, 0, 1, 0, 0, 1, 0, 0]) (by kernel_rfl) ?_
          refine piece11 _ eb off len cap i be (e i) (e k) true false hq rfl hlt hlen (evsIn (HL.out.grown OE.out.grow) hlt) (OE.out.get 0 rfl) ?_
          intro _ _ _ _ _ _ u3 g3
          dsimp only
          have O3 := Lib.hid (OE.out.grown g3.out)
          clear OE STEP g3 hq
          have n0 := O3.out.cell 0 0 rfl rfl; have n1 := O3.out.cell 0 1 rfl rfl; have n2 := O3.out.cell 0 2 rfl rfl; have n3 := O3.out.cell 0 3 rfl rfl; have n4 := O3.out.cell 0 4 rfl rfl; have n5 := O3.out.cell 0 5 rfl rfl; have n6 := O3.out.cell 0 6 rfl rfl; have b0 := O3.out.cell 1 0 rfl rfl; have b1 := O3.out.cell 1 1 rfl rfl; have b2 := O3.out.cell 1 2 rfl rfl; have b3 := O3.out.cell 1 3 rfl rfl; have b4 := O3.out.cell 1 4 rfl rfl; have b5 := O3.out.cell 1 5 rfl rfl; have b6 := O3.out.cell 1 6 rfl rfl; have b7 := O3.out.cell 1 7 rfl rfl; have b8 := O3.out.cell 1 8 rfl rfl; have f0 := O3.out.free 1 0 rfl; have f1 := O3.out.free 1 1 rfl; have f2 := O3.out.free 1 2 rfl; have f3 := O3.out.free 1 3 rfl; have f4 := O3.out.free 1 4 rfl; have f5 := O3.out.free 1 5 rfl; have f6 := O3.out.free 1 6 rfl; have f7 := O3.out.free 1 7 rfl; have f8 := O3.out.free 1 8 rfl
          by_cases h2 : (e k).k = 2
          · have f2 : ((e k).k == 2) = true := by simp [h2]
            have HS := Lib.hid (show trAt e i (k + 1) = { T with ac := T.ac ++ [⟨k, (e k).k, (e k).ob, (e k).va, true && wrote T.ac (e k).ob, false⟩] } by rw [HN.out, stepT_2 _ _ h2, h2, Bool.true_and])
            clear h2
            have OA := Lib.hid (O3.out.alloc 83 [.int .i64 k, .int .i64 ((e k).k), .int .i64 ((e k).ob), .int .i64 ((e k).va), .bool false, .bool false])
            go_upto_region 16 with fail
            generalize u3.alloc (.cells #[.int .i64 k, .int .i64 ((e k).k), .int .i64 ((e k).ob), .int .i64 ((e k).va), .bool false, .bool false] 83) = v4 at *
            generalize u3.heap.size = ba at *
            go_wp2
            refine wp_pcs (c' := pcs Try.f24 [1, 1, 0, 1, 0, 0, 1, 0, 0, 1, 1, 0, 1, 0, 0, 1, 0, 0, 1, 1, 1, 0, 1, 0, 1, 0, 1, 0]) (by kernel_rfl) ?_
            refine piece3 _ u0 bt be ba k T (e k) va vc L2 true (by simpa using f2) hac4 HRA OA ?_
            intro _ _ _ _ _ _ _ _ _ _ _ _ _ _ _ _ _ _ _ _ _ _ _ _ _ _ _ _ _ _ _ _ _ _ _ _ w4 O4
            dsimp only
            go_upto_region 20 with fail
            refine wp_pcs (c' := pcs Try.f24 [1, 1, 0, 1, 0, 0, 1, 0, 0, 1, 1, 0, 1, 0, 0, 1, 0, 0, 1, 1, 1, 0, 1, 0, 1, 1]) (by kernel_rfl) ?_
            refine piece20 _ u0 bt be ba k T (e k) (true && wrote T.ac (e k).ob) va vc L2 hac4 HRA O4 ?_
            intro _ _ _ _ _ _ g' c' L3 w5 R5 O5
            dsimp only
            go_wp2
            go_roundw
            case rel => exact ⟨k + 1, (.slice (some ⟨g', 0, none⟩) (T.ac.length + 1) c'), L3, by omega, by omega, by go_num, by rw [HS.out]; exact R5.out, by rw [HS.out]; exact O5.out.drop (List.Sublist.cons _ (List.Sublist.cons _ (List.Sublist.refl _)))⟩
            case measure => simp [intOf] <;> omega
          · have f2 : ((e k).k == 2) = false := by simp [h2]
            by_cases h3 : (e k).k = 3
            · have f3 : ((e k).k == 3) = true := by simp [h3]
              have HS := Lib.hid (show trAt e i (k + 1) = { T with ac := T.ac ++ [⟨k, (e k).k, (e k).ob, (e k).va, false && wrote T.ac (e k).ob, false⟩] } by rw [HN.out, stepT_3 _ _ h3, h3, Bool.false_and])
              clear h2 h3
              have OA := Lib.hid (O3.out.alloc 83 [.int .i64 k, .int .i64 ((e k).k), .int .i64 ((e k).ob), .int .i64 ((e k).va), .bool false, .bool false])
              go_upto_region 16 with fail
              generalize u3.alloc (.cells #[.int .i64 k, .int .i64 ((e k).k), .int .i64 ((e k).ob), .int .i64 ((e k).va), .bool false, .bool false] 83) = v4 at *
              generalize u3.heap.size = ba at *
              go_wp2
              refine wp_pcs (c' := pcs Try.f24 [1, 1, 0, 1, 0, 0, 1, 0, 0, 1, 1, 0, 1, 0, 0, 1, 0, 0, 1, 1, 1, 0, 1, 0, 1, 0, 1, 0]) (by kernel_rfl) ?_
              refine piece3 _ u0 bt be ba k T (e k) va vc L2 false (by simpa using f2) hac4 HRA OA ?_
              intro _ _ _ _ _ _ _ _ _ _ _ _ _ _ _ _ _ _ _ _ _ _ _ _ _ _ _ _ _ _ _ _ _ _ _ _ w4 O4
              dsimp only
              go_upto_region 20 with fail
              refine wp_pcs (c' := pcs Try.f24 [1, 1, 0, 1, 0, 0, 1, 0, 0, 1, 1, 0, 1, 0, 0, 1, 0, 0, 1, 1, 1, 0, 1, 0, 1, 1]) (by kernel_rfl) ?_
              refine piece20 _ u0 bt be ba k T (e k) (false && wrote T.ac (e k).ob) va vc L2 hac4 HRA O4 ?_
              intro _ _ _ _ _ _ g' c' L3 w5 R5 O5
              dsimp only
              go_wp2
              go_roundw
              case rel => exact ⟨k + 1, (.slice (some ⟨g', 0, none⟩) (T.ac.length + 1) c'), L3, by omega, by omega, by go_num, by rw [HS.out]; exact R5.out, by rw [HS.out]; exact O5.out.drop (List.Sublist.cons _ (List.Sublist.cons _ (List.Sublist.refl _)))⟩
              case measure => simp [intOf] <;> omega
            · have f3 : ((e k).k == 3) = false := by simp [h3]
              by_cases h4 : (e k).k = 4
              · have f4 : ((e k).k == 4) = true := by simp [h4]
                have HS := Lib.hid (show trAt e i (k + 1) = { T with ac := relAll T.ac (e k).ob } by rw [HN.out, stepT_4 _ _ h4])
                clear h2 h3 h4
                go_wp2
                refine wp_pcs (c' := pcs Try.f24 [1, 1, 0, 1, 0, 0, 1, 0, 0, 1, 1, 0, 1, 0, 0, 1, 0, 0, 1, 1, 1, 0, 1, 1, 1, 0, 1, 0]) (by kernel_rfl) ?_
                refine piece4 _ u0 bt be T (e k) va vc L2 hac4 HRA O3 ?_
                intro _ _ _ _ _ _ _ _ _ _ _ _ _ _ _ _ _ _ _ _ _ _ _ _ _ _ _ _ _ _ _ L4 w4 R4 O4
                dsimp only
                go_wp2
                go_roundw
                case rel => exact ⟨k + 1, (.slice va T.ac.length vc), L4, by omega, by omega, by go_num, by rw [HS.out]; exact R4.out, by rw [HS.out]; exact O4.out.drop (List.Sublist.cons _ (List.Sublist.refl _))⟩
                case measure => simp [intOf] <;> omega
              · have f4 : ((e k).k == 4) = false := by simp [h4]
                by_cases h5 : (e k).k = 5
                · have f5k : ((e k).k == 5) = true := by simp [h5]
                  have HS := Lib.hid (show trAt e i (k + 1) = { T with en := k, co := true } by rw [HN.out, stepT_5 _ _ h5])
                  clear h2 h3 h4 h5
                  go_wp2
                  go_roundw
                  case rel => exact ⟨k + 1, (.slice va T.ac.length vc), L2, by omega, by omega, by go_num, by rw [HS.out]; exact HRA.out, by rw [HS.out]; exact ((O3.out.set 1 5 (.int .i64 k) rfl).set 1 7 (.bool true) rfl).drop (List.Sublist.cons _ (List.Sublist.refl _))⟩
                  case measure => simp [intOf] <;> omega
                · have f5k : ((e k).k == 5) = false := by simp [h5]
                  by_cases h6 : (e k).k = 6
                  · have f6k : ((e k).k == 6) = true := by simp [h6]
                    have HS := Lib.hid (show trAt e i (k + 1) = { T with en := k, re := (e k).re } by rw [HN.out, stepT_6 _ _ h6])
                    clear h2 h3 h4 h5 h6
                    go_wp2
                    go_roundw
                    case rel => exact ⟨k + 1, (.slice va T.ac.length vc), L2, by omega, by omega, by go_num, by rw [HS.out]; exact HRA.out, by rw [HS.out]; exact ((O3.out.set 1 5 (.int .i64 k) rfl).set 1 6 (.int .i64 (e k).re) rfl).drop (List.Sublist.cons _ (List.Sublist.refl _))⟩
                    case measure => simp [intOf] <;> omega
                  · have f6k : ((e k).k == 6) = false := by simp [h6]
                    have HS := Lib.hid (show trAt e i (k + 1) = T by rw [HN.out, stepT_no _ _ h2 h3 h4 h5 h6])
                    clear h2 h3 h4 h5 h6
                    go_wp2
                    go_roundw
                    case rel => exact ⟨k + 1, (.slice va T.ac.length vc), L2, by omega, by omega, by go_num, by rw [HS.out]; exact HRA.out, by rw [HS.out]; exact O3.out.drop (List.Sublist.cons _ (List.Sublist.refl _))⟩
                    case measure => simp [intOf] <;> omega
      · have fen : decide (T.en < 0) = false := by simpa using hen
        have HF := Lib.hid (show trAt e i len = T by rw [HT.out]; exact trAt_end e i (by rw [← HT.out]; omega) (Nat.le_of_lt hkl))
        go_wp2
        have hJ := HJ.out
        rw [HF.out] at hJ
        exact hJ _ _ _ _ _ _ _ _ _ _ _ _ _ _ _ _ _ _ _ _ _ _ _ _ _ _ _ _ _ _ _ _ _ _ _ _ _ _ _ _ _ _ _ _ _ _ _ _ _ _ _ _ _ _ _ _ _ _ _ _ _ _ _ _ _ _ _ _ _ _ _ _ _ _ _ _ _ _ _ _ _ _ _ _ _ _ _ _ _ _ _ _ _ _ _ _ _ _ _ _ _ _ _ _ _ _ _ _ _ _ _ _ _ _ _ _ _ _ _ _ _ _ _ _ _ _ L2 _ HRA HOW
    · obtain rfl : k = len := by omega
      go_wp2
      have hJ := HJ.out
      rw [← HT.out] at hJ
      exact hJ _ _ _ _ _ _ _ _ _ _ _ _ _ _ _ _ _ _ _ _ _ _ _ _ _ _ _ _ _ _ _ _ _ _ _ _ _ _ _ _ _ _ _ _ _ _ _ _ _ _ _ _ _ _ _ _ _ _ _ _ _ _ _ _ _ _ _ _ _ _ _ _ _ _ _ _ _ _ _ _ _ _ _ _ _ _ _ _ _ _ _ _ _ _ _ _ _ _ _ _ _ _ _ _ _ _ _ _ _ _ _ _ _ _ _ _ _ _ _ _ _ _ _ _ _ _ L2 _ HRA HOW
end Go.Proofs.Ytkidkhjpijjphaa.hs

/- The document's Tries: region 33. A theorem of its own over that piece of the code. -/
namespace Go.Proofs.Ytkidkhjpijjphaa.hs
open Go Go.RowKit Go.Proofs.Ytkidkhjpijjphaa.base Go.Maps
set_option linter.unusedVariables false
set_option maxRecDepth 100000

theorem infoTryD : (Try.prog.info? 59).map (fun i => (i.zero, i.size, i.bytes)) = some (some (.agg #[.int .i64 0, .int .i64 0, .int .i64 0, .int .i64 0, .int .i64 0, .int .i64 0, .int .i64 0, .bool false, .slice none 0 0]), 9, 88) := by kernel_rfl

set_option maxHeartbeats 4000000 in
theorem piece33 (w : World) (w0 u0 : World) (bt : Nat) (ys : List (Tr × Value)) (T : Tr) (v : Value) (oa : Option Addr) (oc : Nat) (L L2 : Blks) (hyl : ys.length ≤ 10000) (hg : Hid (u0.grownBy w none)) (HROW : Hid (Row tvC 9 59 ys (.slice oa ys.length oc) L)) (HO : Hid (base.Own w0 u0 L)) (HAC : Hid (∀ x ∈ ys, u0.ownsRow 0 83 6 x.2 x.1.ac.length (rows accC x.1.ac))) (HRA : Hid (Row accC 6 83 T.ac v L2)) (HOW : Hid (base.Own u0 w ((bt, 59, trC T v) :: L2))) {v0 v1 v2 v4 v6 v7 v8 v9 v10 v11 v12 v13 v14 v15 v16 v17 v18 v19 v20 v21 v22 v23 v24 v25 v26 v27 v28 v29 v30 v31 v32 v33 v34 v35 v36 v37 v38 v39 v40 v41 v42 v43 v44 v45 v46 v47 v48 v49 v50 v51 v52 v53 v54 v55 v56 v57 v58 v59 v60 v61 v62 v63 v64 v65 v66 v67 v68 v69 v70 v71 v72 v73 v74 v75 v76 v77 v78 v79 v80 v81 v82 v83 v84 v85 v86 v87 v88 v89 v90 v91 v92 v93 v94 v95 v96 v97 v98 v99 v100 v101 v102 v103 v104 v105 v106 v107 v108 v109 v110 v111 v112 v113 v114 v115 v116 v117 v118 v119 v120 v121 v122 v123 v124 v125 v126 v127 v128 v129 v130 v131 v132 v133 v134 v135 v136 v137 v138 v139 v140 v141 v142 v143 v144 v145 v146 v147 v148 v149 v150 v151 v152 v153 v154 v155 v156 v157 v158 v159 v160 v161 v162 v163 v164 v165 v166 v167 v168 v169 v170 v171 : Value} {Q : Exit → Act → World → Prop}
    (hJ : ∀ (u167 u168 u169 u170 : Value) (g' c' : Nat) (L' : Blks) (w' : World), Hid (Row tvC 9 59 (ys ++ [(T, v)]) (.slice (some ⟨g', 0, none⟩) (ys.length + 1) c') L') → Hid (base.Own w0 w' L') → Hid (∀ x ∈ ys ++ [(T, v)], w'.ownsRow 0 83 6 x.2 x.1.ac.length (rows accC x.1.ac)) → Q Exit.normal { tmps := #[v0, v1, v2, .slice (some ⟨g', 0, none⟩) (ys.length + 1) c', v4, .pointer (some ⟨bt, 0, none⟩), v6, v7, v8, v9, v10, v11, v12, v13, v14, v15, v16, v17, v18, v19, v20, v21, v22, v23, v24, v25, v26, v27, v28, v29, v30, v31, v32, v33, v34, v35, v36, v37, v38, v39, v40, v41, v42, v43, v44, v45, v46, v47, v48, v49, v50, v51, v52, v53, v54, v55, v56, v57, v58, v59, v60, v61, v62, v63, v64, v65, v66, v67, v68, v69, v70, v71, v72, v73, v74, v75, v76, v77, v78, v79, v80, v81, v82, v83, v84, v85, v86, v87, v88, v89, v90, v91, v92, v93, v94, v95, v96, v97, v98, v99, v100, v101, v102, v103, v104, v105, v106, v107, v108, v109, v110, v111, v112, v113, v114, v115, v116, v117, v118, v119, v120, v121, v122, v123, v124, v125, v126, v127, v128, v129, v130, v131, v132, v133, v134, v135, v136, v137, v138, v139, v140, v141, v142, v143, v144, v145, v146, v147, v148, v149, v150, v151, v152, v153, v154, v155, v156, v157, v158, v159, v160, v161, v162, v163, v164, v165, v166, u167, u168, u169, u170, v171], defers := [] } w') :
    Code.wp Try.prog (pcs Try.f24 [1, 1, 0, 1, 0, 0, 1, 0, 0, 1, 1, 1]) (Q) { tmps := #[v0, v1, v2, .slice oa ys.length oc, v4, .pointer (some ⟨bt, 0, none⟩), v6, v7, v8, v9, v10, v11, v12, v13, v14, v15, v16, v17, v18, v19, v20, v21, v22, v23, v24, v25, v26, v27, v28, v29, v30, v31, v32, v33, v34, v35, v36, v37, v38, v39, v40, v41, v42, v43, v44, v45, v46, v47, v48, v49, v50, v51, v52, v53, v54, v55, v56, v57, v58, v59, v60, v61, v62, v63, v64, v65, v66, v67, v68, v69, v70, v71, v72, v73, v74, v75, v76, v77, v78, v79, v80, v81, v82, v83, v84, v85, v86, v87, v88, v89, v90, v91, v92, v93, v94, v95, v96, v97, v98, v99, v100, v101, v102, v103, v104, v105, v106, v107, v108, v109, v110, v111, v112, v113, v114, v115, v116, v117, v118, v119, v120, v121, v122, v123, v124, v125, v126, v127, v128, v129, v130, v131, v132, v133, v134, v135, v136, v137, v138, v139, v140, v141, v142, v143, v144, v145, v146, v147, v148, v149, v150, v151, v152, v153, v154, v155, v156, v157, v158, v159, v160, v161, v162, v163, v164, v165, v166, v167, v168, v169, v170, v171], defers := [] } w := by
  dsimp only
  conv => arg 2; whnf
  obtain ⟨i0, hi0, hz00, hz10, hz20⟩ := info_parts infoTryD
  have hi := Lib.hid hi0
  have hz0 := Lib.hid hz00
  have hz1 := Lib.hid hz10
  have hz2 := Lib.hid hz20
  clear hi0 hz00 hz10 hz20
  obtain ⟨va, vc, rfl⟩ := HRA.out.slice
  have t0 := HOW.out.cell 0 0 rfl rfl; have t1 := HOW.out.cell 0 1 rfl rfl; have t2 := HOW.out.cell 0 2 rfl rfl; have t3 := HOW.out.cell 0 3 rfl rfl; have t4 := HOW.out.cell 0 4 rfl rfl; have t5 := HOW.out.cell 0 5 rfl rfl; have t6 := HOW.out.cell 0 6 rfl rfl; have t7 := HOW.out.cell 0 7 rfl rfl; have t8 := HOW.out.cell 0 8 rfl rfl
  have HOUT := Lib.hid (HO.out.grown hg.out)
  have HOWN := Lib.hid (HROW.out.owns tvC_len (R := []) (by rw [List.append_nil]; exact HOUT.out))
  have HXS := Lib.hid (HRA.out.owns accC_len (own_flip (A := [_]) HOW.out))
  have hbase := HO.out.grow.size
  have hbase2 := HOW.out.grow.size
  go_wp2_with (first | (at_builtin; refine wpList_append_at _ rfl (.tmp 167) (.tmp 169) 55 rfl w0.heap.size 59 i0 (.agg #[.int .i64 0, .int .i64 0, .int .i64 0, .int .i64 0, .int .i64 0, .int .i64 0, .int .i64 0, .bool false, .slice none 0 0]) 9 88 Try.underlying55 hi.out hz0.out hz1.out hz2.out rfl (by decide) (.slice oa ys.length oc) ys.length (rows tvC ys) rfl (HOWN.out.alloc _) ⟨w.heap.size, 0, none⟩ 1 1 (tvC (T, .slice va T.ac.length vc)) rfl rfl (new_cells w _ _) (by intro u hu; simp [tvC, trC] at hu; rcases hu with rfl | rfl | rfl | rfl | rfl | rfl | rfl | rfl | rfl <;> rfl) (by unfold maxLen; omega) (by omega) (by simp; omega) (by decide) ?_; intro g' c' w5 ho hg2 hv; obtain ⟨L', r1, r2⟩ := base.Row.snoc (x := (T, .slice va T.ac.length vc)) HROW.out (R := []) (by rw [List.append_nil]; exact HOUT.out) (World.grownBy_alloc w _ none) ho hg2 hv; rw [List.append_nil] at r2; have R1 := Lib.hid r1; have R2 := Lib.hid r2; have R3 := Lib.hid (acs_snoc (x := (T, .slice va T.ac.length vc)) HAC.out hg.out HXS.out HOWN.out (by decide) (gb_trans (World.grownBy_alloc w _ _) hg2)); clear ho hg2 hv r1 r2) | go_in)
  exact hJ _ _ _ _ g' c' L' _ R1 R2 R3
end Go.Proofs.Ytkidkhjpijjphaa.hs

/- The document's own answer of chapter 17: Tries. -/
namespace Go.Proofs.Ytkidkhjpijjphaa.hs
open Go Go.RowKit Go.Proofs.Ytkidkhjpijjphaa.base Go.Maps
set_option linter.unusedVariables false
set_option maxRecDepth 100000

set_option maxHeartbeats 4000000 in
theorem tries_docA (a : Option Addr) (len cap : Nat) (e : Evs) (w : World) (hl : IsEvs w a len e) (hr : right e len = true) (hlen : len ≤ 10000) :
    Calls Try.prog 24 #[.slice a len cap] w fun r w' => ∃ a' c ys, r = .returned (.slice a' ys.length c) ∧ Hid (TsAt w' a' ys) ∧ Hid (ys.map Prod.fst = tries e len) ∧ Hid (w.grownBy w' none) ∧ Hid (∀ x ∈ ys, w'.ownsRow 0 83 6 x.2 x.1.ac.length (rows accC x.1.ac)) := by
  have HL := Lib.hid hl
  have HR := Lib.hid hr
  have HLEN := Lib.hid hlen
  clear hl hr hlen
  go_enter Try.func24, Try.ntmps24
  go_wp2_with fail
  go_loopw [3, 4] (fun ov iv wr => ∃ (i : Nat) (ys : List (Tr × Value)) (L : Blks), i ≤ len ∧ iv = .int .i64 i ∧ Hid (Row tvC 9 59 ys ov L) ∧ Hid (base.Own w wr L) ∧ Hid (ys.map Prod.fst = (begins e i).map fun b => trAt e b len) ∧ Hid (∀ x ∈ ys, wr.ownsRow 0 83 6 x.2 x.1.ac.length (rows accC x.1.ac))) (fun _ iv _ => (len - intOf iv).toNat)
  case atStart => exact ⟨0, [], [], by omega, rfl, Row.nil, base.Own.start w, rfl, fun x hx => by simp at hx⟩
  case round =>
    obtain ⟨i, ys, L, hi1, rfl, HROW, HO, HYS, HAC⟩ := hrel
    obtain ⟨oa, oc, rfl⟩ := HROW.out.slice
    by_cases hlt : i < len
    · obtain ⟨eb, off, rfl, heb, fe0⟩ := evsAt (HL.out.grown HO.out.grow) (show 0 < len by omega)
      obtain ⟨c0, c1, c2, c3, c4, c5, c6⟩ := fe0 i hlt
      clear fe0
      have hlt' : (i : Int) < (len : Int) := by omega
      have hil : (i : Int) < 1000000 := by have := HLEN.out; omega
      by_cases h1 : (e i).k = 1
      · have f1 : ((e i).k != 1) = false := by simp [h1]
        have W1 := Lib.hid h1
        clear h1
        have HL0 := Lib.hid (HL.out.grown HO.out.grow)
        have hyl : ys.length ≤ 10000 := by
          have h9 := congrArg List.length HYS.out
          rw [List.length_map, List.length_map] at h9
          have h8 := begins_n e i
          have h7 := HLEN.out
          omega
        obtain ⟨u0, hu0⟩ : ∃ u0, u0 = wr := ⟨_, rfl⟩
        subst hu0
        go_upto_region 6 with fail
        refine wp_pcs (c' := pcs Try.f24 [1, 1, 0, 1, 0, 0, 1, 0, 0, 1, 0]) (by kernel_rfl) ?_
        refine piece6 u0 eb off len cap e i HL0.out hlt HLEN.out ?_
        refine Lib.hid ?_
        intro _ _ _ _ _ _ _ _ _ _ _ _ _ _ _ _ _ _ _ _ _ _
        dsimp only
        have OT := Lib.hid (((base.Own.start u0).alloc 59 [.int .i64 ((e i).th), .int .i64 ((e i).tx), .int .i64 ((e i).at_), .int .i64 ((e i).va), .int .i64 i, .int .i64 (-1), .int .i64 0, .bool false, .slice none 0 0]).drew)
        generalize (u0.alloc _).drew = u1 at *
        generalize hbt : u0.heap.size = bt at OT
        clear hbt c0 c1 c2 c3 c4 c5 c6
        go_wp2
        refine wp_pcs (c' := pcs Try.f24 [1, 1, 0, 1, 0, 0, 1, 0, 0, 1, 1, 0, 1, 0]) (by kernel_rfl) ?_
        refine piece2 _ u0 eb off len cap e i bt HL0.out HR.out hlt W1.out HLEN.out OT ?_
        intro _ _ _ _ _ _ _ _ _ _ _ _ _ _ _ _ _ _ _ _ _ _ _ _ _ _ _ _ _ _ _ _ _ _ _ _ _ _ _ _ _ _ _ _ _ _ _ _ _ _ _ _ _ _ _ _ _ _ _ _ _ _ _ _ _ _ _ _ _ _ _ _ _ _ _ _ _ _ _ _ _ _ _ _ _ _ _ _ _ _ _ _ _ _ _ _ _ _ _ _ _ _ _ _ _ _ _ _ _ _ _ _ _ _ _ _ _ _ _ _ _ _ _ _ _ v L2 w2 R2 O2
        dsimp only
        go_upto_region 33 with fail
        refine wp_pcs (c' := pcs Try.f24 [1, 1, 0, 1, 0, 0, 1, 0, 0, 1, 1, 1]) (by kernel_rfl) ?_
        refine piece33 _ w u0 bt ys (trAt e i len) v oa oc L L2 hyl O2.out.grow HROW HO HAC R2 O2 ?_
        intro _ _ _ _ g' c' L' w3 R3 O3 A3
        dsimp only
        go_wp2
        go_roundw
        case rel => exact ⟨i + 1, ys ++ [(trAt e i len, v)], L', by omega, by go_num, R3, O3, by (rw [begins_succ, if_pos W1.out, List.map_append, List.map_append, HYS.out]; show _ = _; simp), A3⟩
        case measure => simp [intOf] <;> omega
      · have f1 : ((e i).k != 1) = true := by simp [h1]
        have HB := Lib.hid (show begins e (i + 1) = begins e i by rw [begins_succ, if_neg h1])
        clear h1
        go_wp2
        go_roundw
        case rel => exact ⟨i + 1, ys, L, by omega, by go_num, HROW, HO, by rw [HB.out]; exact HYS, HAC⟩
        case measure => simp [intOf] <;> omega
    · obtain rfl : i = len := by omega
      go_wp2
      go_ret
      obtain ⟨a', c', hv, HT⟩ := TsAt.of_row HROW.out (R := []) (by rw [List.append_nil]; exact HO.out) (fun x hx => isL_owns (HAC.out x hx))
      cases hv
      exact ⟨_, _, ys, rfl, HT, HYS.out, HO.out.grow, HAC⟩

theorem tries_doc (a : Option Addr) (len cap : Nat) (e : Evs) (w : World) (hl : IsEvs w a len e) (hr : right e len = true) (hlen : len ≤ 10000) :
    Calls Try.prog 24 #[.slice a len cap] w fun r w' => ∃ a' c ys, r = .returned (.slice a' ys.length c) ∧ Hid (TsAt w' a' ys) ∧ Hid (ys.map Prod.fst = tries e len) ∧ Hid (w.grownBy w' none) :=
  (tries_docA a len cap e w hl hr hlen).mono fun _ _ ⟨a', c, ys, h0, h1, h2, h3, _⟩ => ⟨a', c, ys, h0, h1, h2, h3⟩

end Go.Proofs.Ytkidkhjpijjphaa.hs

/- The document's own answer of chapter 17: Commits. -/
namespace Go.Proofs.Ytkidkhjpijjphaa.hs
open Go Go.RowKit Go.Proofs.Ytkidkhjpijjphaa.base Go.Maps
set_option linter.unusedVariables false
set_option maxRecDepth 100000

theorem take_filter {α : Type} (l : List α) (p : α → Bool) {k : Nat} {x : α} (h : l[k]? = some x) : (l.take (k + 1)).filter p = (l.take k).filter p ++ (if p x = true then [x] else []) := by
  rw [List.take_add_one, h, List.filter_append]
  by_cases hp : p x = true
  · simp [hp]
  · simp [hp]

theorem in_snoc {α : Type} {ts ys : List α} {x : α} (h : ∀ y ∈ ys, y ∈ ts) (hx : x ∈ ts) : ∀ y ∈ ys ++ [x], y ∈ ts := by
  intro y hy
  rcases List.mem_append.1 hy with hy | hy
  · exact h y hy
  · rw [List.mem_singleton.1 hy]
    exact hx
/-- One more try of those that lie there. -/
theorem ts_snoc {u w : World} {ys : List (Tr × Value)} {L : Blks} {oa : Option Addr} {oc : Nat} {x : Tr × Value} {g' c' : Nat} (HROW : Row tvC 9 59 ys (.slice oa ys.length oc) L) (HO : base.Own u w L) {o : Obj} {w5 : World}
    (ho : w5.ownsRow u.heap.size 59 9 (.slice (some ⟨g', 0, none⟩) (ys.length + 1) c') (ys.length + 1) (rows tvC ys ++ tvC x)) (hg : (w.alloc o).grownBy w5 (Value.slice oa ys.length oc).ownBlock) (hv : some g' = (Value.slice oa ys.length oc).ownBlock ∨ (w.alloc o).heap.size ≤ g') :
    ∃ L', Row tvC 9 59 (ys ++ [x]) (.slice (some ⟨g', 0, none⟩) (ys.length + 1) c') L' ∧ base.Own u w5 L' := by
  obtain ⟨L', r1, r2⟩ := base.Row.snoc (x := x) HROW (R := []) (by rw [List.append_nil]; exact HO) (World.grownBy_alloc w o none) ho hg hv
  rw [List.append_nil] at r2
  exact ⟨L', r1, r2⟩

set_option maxHeartbeats 4000000 in
theorem comms_docA (a : Option Addr) (len cap : Nat) (e : Evs) (w : World) (hl : IsEvs w a len e) (hr : right e len = true) (hlen : len ≤ 1000) :
    Calls Try.prog 39 #[.slice a len cap] w fun r w' => ∃ a' c ys, r = .returned (.slice a' ys.length c) ∧ Hid (TsAt w' a' ys) ∧ Hid (ys.map Prod.fst = commsD e len) ∧ Hid (w.grownBy w' none) ∧ Hid (w'.ownsRow 0 59 9 (.slice a' ys.length c) ys.length (rows tvC ys)) ∧ Hid (∀ x ∈ ys, w'.ownsRow 0 83 6 x.2 x.1.ac.length (rows accC x.1.ac)) := by
  have HL := Lib.hid hl
  have HR := Lib.hid hr
  have HLEN := Lib.hid hlen
  obtain ⟨i0, hi0, hz00, hz10, hz20⟩ := info_parts infoTryD
  have hi := Lib.hid hi0
  have hz0 := Lib.hid hz00
  have hz1 := Lib.hid hz10
  have hz2 := Lib.hid hz20
  clear hl hr hlen hi0 hz00 hz10 hz20
  go_enter Try.func39, Try.ntmps39
  go_wp2_with fail
  refine (tries_docA a len cap e _ HL.out HR.out (by have := HLEN.out; omega)).mono ?_
  rintro r u1 ⟨ta, tc, ts, rfl, HT, HTS, g1, HAA⟩
  have hlen' : (len : Int) ≤ 1000 := by have := HLEN.out; omega
  have htl : ts.length ≤ 1000 := by
    have h9 := congrArg List.length HTS.out
    rw [List.length_map] at h9
    have h8 := tries_n e len
    have h7 := HLEN.out
    omega
  have htl2 : (ts.length : Int) ≤ 1000 := by omega
  have HLT := Lib.hid (show ts.length = (tries e len).length by rw [← HTS.out, List.length_map])
  go_wp2
  go_loopw [3, 5] (fun ov iv wr => ∃ (i : Nat) (ys : List (Tr × Value)) (L : Blks), i ≤ len ∧ iv = .int .i64 i ∧ Hid (Row tvC 9 59 ys ov L) ∧ Hid (base.Own u1 wr L) ∧ Hid (ys.map Prod.fst = (List.range i).flatMap fun (j : Nat) => (tries e len).filter fun t => t.co && decide (t.en = (j : Int))) ∧ Hid (∀ x ∈ ys, x ∈ ts) ∧ Hid (ys.length ≤ i * 1000)) (fun _ iv _ => (len - intOf iv).toNat)
  case atStart => exact ⟨0, [], [], by omega, rfl, Row.nil, base.Own.start u1, rfl, fun x hx => by simp at hx, Nat.zero_le _⟩
  case round =>
    obtain ⟨i, ys, L, hi1, rfl, HROW, HO, HYS, HIN, HN⟩ := hrel
    obtain ⟨oa, oc, rfl⟩ := HROW.out.slice
    by_cases hlt : i < len
    · have hlt' : (i : Int) < (len : Int) := by omega
      have HYS0 := Lib.hid HYS.out
      obtain ⟨B, hB⟩ : ∃ B, B = (List.range i).flatMap fun (j : Nat) => (tries e len).filter fun t => t.co && decide (t.en = (j : Int)) := ⟨_, rfl⟩
      rw [← hB] at HYS
      have HB := Lib.hid hB
      clear hB HYS0
      go_wp2
      go_loopw [3, 6] (fun ov kv wr => ∃ (k : Nat) (ys : List (Tr × Value)) (L : Blks), k ≤ ts.length ∧ kv = .int .i64 k ∧ Hid (Row tvC 9 59 ys ov L) ∧ Hid (base.Own u1 wr L) ∧ Hid (ys.map Prod.fst = B ++ ((tries e len).take k).filter fun t => t.co && decide (t.en = (i : Int))) ∧ Hid (∀ x ∈ ys, x ∈ ts) ∧ Hid (ys.length ≤ i * 1000 + k)) (fun _ kv _ => (ts.length - intOf kv).toNat)
      case atStart => exact ⟨0, ys, L, by omega, rfl, HROW, HO, by show _ = _; rw [HYS.out]; simp, HIN, HN⟩
      case round =>
        clear HROW HO HYS HIN HN
        obtain ⟨k, ys, L, hk1, rfl, HROW, HO, HYS, HIN, HN⟩ := hrel
        obtain ⟨oa, oc, rfl⟩ := HROW.out.slice
        by_cases hkl : k < ts.length
        · have hkl' : (k : Int) < (ts.length : Int) := by omega
          have hkx : (tries e len)[k]? = some ts[k].1 := by rw [← HTS.out, List.getElem?_map, List.getElem?_eq_getElem hkl]; rfl
          obtain ⟨b, off, va, vc, rfl, hb, hx2, HI, q0, q1, q2, q3, q4, q5, q6, q7, q8⟩ := (HT.out.grown HO.out.grow).at (List.getElem?_eq_getElem hkl)
          have hmem : ts[k] ∈ ts := List.getElem_mem hkl
          obtain ⟨t, ht⟩ : ∃ t, t = ts[k].1 := ⟨_, rfl⟩
          rw [← ht] at hkx hx2 q0 q1 q2 q3 q4 q5 q6 q7 q8
          have hpair : ts[k] = (t, .slice va t.ac.length vc) := Prod.ext ht.symm hx2
          rw [hpair] at hmem
          have HMEM := Lib.hid hmem
          have TF := Lib.hid (take_filter (tries e len) (fun t => t.co && decide (t.en = (i : Int))) hkx)
          clear hpair ht hkx hx2 hmem HI
          obtain ⟨xth, xtx, xat, xst, xb, xen, xre, xco, xac⟩ := t
          dsimp only at q0 q1 q2 q3 q4 q5 q6 q7 q8 HMEM TF
          have HOWN := Lib.hid (HROW.out.owns tvC_len (R := []) (by rw [List.append_nil]; exact HO.out))
          have hyn : ys.length ≤ 2000000 := by have := HN.out; have := HLEN.out; omega
          have hsz := HO.out.grow.size
          have hk6 : (k : Int) < 1000000 := by omega
          cases xco with
          | true =>
            by_cases hen : xen = (i : Int)
            · have fe : (xen == (i : Int)) = true := by simp [hen]
              have HP := Lib.hid (show ((tries e len).take (k + 1)).filter (fun t => t.co && decide (t.en = (i : Int))) = ((tries e len).take k).filter (fun t => t.co && decide (t.en = (i : Int))) ++ [(⟨xth, xtx, xat, xst, xb, xen, xre, true, xac⟩ : Tr)] by rw [TF.out, if_pos (by simp [hen])])
              clear hen TF
              go_wp2_with (first | (at_builtin; refine wpList_append_at _ rfl (.tmp 35) (.tmp 40) 55 rfl u1.heap.size 59 i0 (.agg #[.int .i64 0, .int .i64 0, .int .i64 0, .int .i64 0, .int .i64 0, .int .i64 0, .int .i64 0, .bool false, .slice none 0 0]) 9 88 Try.underlying55 hi.out hz0.out hz1.out hz2.out rfl (by decide) (.slice oa ys.length oc) ys.length (rows tvC ys) rfl (HOWN.out.alloc _) ⟨wr.heap.size, 0, none⟩ 1 1 (tvC ((⟨xth, xtx, xat, xst, xb, xen, xre, true, xac⟩ : Tr), .slice va ((⟨xth, xtx, xat, xst, xb, xen, xre, true, xac⟩ : Tr)).ac.length vc)) rfl rfl (new_cells wr _ _) (by intro u hu; simp [tvC, trC] at hu; rcases hu with rfl | rfl | rfl | rfl | rfl | rfl | rfl | rfl | rfl <;> rfl) (by unfold maxLen; omega) (by omega) (by simp; omega) (by decide) ?_; intro g' c' w5 ho hg hv; obtain ⟨L', r1, r2⟩ := ts_snoc (x := ((⟨xth, xtx, xat, xst, xb, xen, xre, true, xac⟩ : Tr), .slice va ((⟨xth, xtx, xat, xst, xb, xen, xre, true, xac⟩ : Tr)).ac.length vc)) HROW.out HO.out ho hg hv; have R1 := Lib.hid r1; have R2 := Lib.hid r2; clear ho hg hv r1 r2) | go_in)
              go_roundw
              case rel => exact ⟨k + 1, ys ++ [((⟨xth, xtx, xat, xst, xb, xen, xre, true, xac⟩ : Tr), .slice va xac.length vc)], L', by omega, by go_num, R1, R2, by show _ = _; rw [List.map_append, HYS.out, HP.out, List.append_assoc]; rfl, in_snoc HIN.out HMEM.out, by show _ ≤ _; rw [List.length_append]; have := HN.out; simp; omega⟩
              case measure => simp [intOf] <;> omega
            · have fe : (xen == (i : Int)) = false := by simp [hen]
              have HP := Lib.hid (show ((tries e len).take (k + 1)).filter (fun t => t.co && decide (t.en = (i : Int))) = ((tries e len).take k).filter (fun t => t.co && decide (t.en = (i : Int))) by rw [TF.out, if_neg (by simp [hen]), List.append_nil])
              clear hen TF
              go_wp2
              go_roundw
              case rel => exact ⟨k + 1, ys, L, by omega, by go_num, HROW, HO, by show _ = _; rw [HYS.out, HP.out], HIN, by show _ ≤ _; have := HN.out; omega⟩
              case measure => simp [intOf] <;> omega
          | false =>
            have HP := Lib.hid (show ((tries e len).take (k + 1)).filter (fun t => t.co && decide (t.en = (i : Int))) = ((tries e len).take k).filter (fun t => t.co && decide (t.en = (i : Int))) by rw [TF.out, if_neg (by simp), List.append_nil])
            clear TF
            go_wp2
            go_roundw
            case rel => exact ⟨k + 1, ys, L, by omega, by go_num, HROW, HO, by show _ = _; rw [HYS.out, HP.out], HIN, by show _ ≤ _; have := HN.out; omega⟩
            case measure => simp [intOf] <;> omega
        · obtain rfl : k = ts.length := by omega
          go_wp2
          go_roundw
          case rel => exact ⟨i + 1, ys, L, by omega, by go_num, HROW, HO, by (show _ = _; rw [HYS.out, HLT.out, List.take_length, HB.out, List.range_succ, List.flatMap_append]; simp), HIN, by show _ ≤ _; have := HN.out; omega⟩
          case measure => simp [intOf] <;> omega
    · obtain rfl : i = len := by omega
      go_wp2
      go_ret
      obtain ⟨a', c', hv, HZ⟩ := TsAt.of_row HROW.out (R := []) (by rw [List.append_nil]; exact HO.out) (fun x hx => (HT.out.grown HO.out.grow).2 x (HIN.out x hx))
      cases hv
      exact ⟨_, _, ys, rfl, HZ, HYS.out, gb_trans g1.out HO.out.grow, owns_zero (HROW.out.owns tvC_len (R := []) (by rw [List.append_nil]; exact HO.out)), fun x hx => ownsRow_keep (HAA.out x (HIN.out x hx)) (fun k e => HO.out.grow.block k ((HAA.out x (HIN.out x hx)).lt k e).2 (by simp))⟩

theorem comms_doc (a : Option Addr) (len cap : Nat) (e : Evs) (w : World) (hl : IsEvs w a len e) (hr : right e len = true) (hlen : len ≤ 1000) :
    Calls Try.prog 39 #[.slice a len cap] w fun r w' => ∃ a' c ys, r = .returned (.slice a' ys.length c) ∧ Hid (TsAt w' a' ys) ∧ Hid (ys.map Prod.fst = commsD e len) ∧ Hid (w.grownBy w' none) :=
  (comms_docA a len cap e w hl hr hlen).mono fun _ _ ⟨a', c, ys, h0, h1, h2, h3, _⟩ => ⟨a', c, ys, h0, h1, h2, h3⟩

end Go.Proofs.Ytkidkhjpijjphaa.hs

/- The document's own answer of chapter 18: States. -/
namespace Go.Proofs.Ytkidkhjpijjphaa.md
open Go Go.RowKit Go.Proofs.Ytkidkhjpijjphaa.base Go.Proofs.Ytkidkhjpijjphaa.hs Go.Proofs.Ytkidkhjpijjphaa.lg Go.Maps
set_option linter.unusedVariables false
set_option maxRecDepth 100000

/-- At the head of a round. -/
structure DS (w : World) (a1 : Option Addr) (n c1 : Nat) (z : Nat → Int) (cs : List (List Acc)) (ta : Option Addr) (tc : Nat) (ys : List (Tr × Value)) (g oc : Nat) (us : List Value) (wr : World) : Prop where
  row : wr.ownsRow w.heap.size 22 1 (.slice (some ⟨g, 0, none⟩) us.length oc) us.length us
  fst : us[0]? = some (.slice a1 n c1)
  each : ∀ i u, 0 < i → us[i]? = some u → RowAt wr 0 n (stAt z cs i) u
  tr : wr.ownsRow 0 59 9 (.slice ta ys.length tc) ys.length (rows tvC ys)
  ac : ∀ x ∈ ys, wr.ownsRow 0 83 6 x.2 x.1.ac.length (rows accC x.1.ac)
  grow : w.grownBy wr none

section
variable {w wr w' u5 w6 : World} {a1 ta : Option Addr} {n c1 tc g oc : Nat} {z : Nat → Int} {cs : List (List Acc)} {ys : List (Tr × Value)} {us : List Value}
theorem DS.grown (h : DS w a1 n c1 z cs ta tc ys g oc us wr) (k : wr.grownBy w' none) : DS w a1 n c1 z cs ta tc ys g oc us w' :=
  ⟨ownsRow_keep h.row (fun i e => k.block i (h.row.lt i e).2 (by simp)), h.fst, fun i u h0 hu => (by
    obtain ⟨a, c, e, hr⟩ := h.each i u h0 hu
    exact ⟨a, c, e, ownsRow_keep hr (fun i e => k.block i (hr.lt i e).2 (by simp))⟩), ownsRow_keep h.tr (fun i e => k.block i (h.tr.lt i e).2 (by simp)), fun x hx => ownsRow_keep (h.ac x hx) (fun i e => k.block i ((h.ac x hx).lt i e).2 (by simp)), gb_trans h.grow k⟩
theorem DS.val (h : DS w a1 n c1 z cs ta tc ys g oc us wr) (hz : IsNums .i64 w a1 n z) {k : Nat} (hk : k < us.length) : ∃ ak ck, us[k]? = some (.slice ak n ck) ∧ IsNums .i64 wr ak n (stAt z cs k) := by
  by_cases h0 : k = 0
  · subst h0
    exact ⟨a1, c1, h.fst, hz.grown h.grow⟩
  · obtain ⟨a, c, e, hr⟩ := h.each k us[k] (by omega) (List.getElem?_eq_getElem hk)
    rw [e] at hr
    exact ⟨a, c, by rw [List.getElem?_eq_getElem hk, e], IsNums.of_own hr⟩
theorem DS.app (h : DS w a1 n c1 z cs ta tc ys g oc us wr) {a5 : Option Addr} {c5 g' c' : Nat} (g5 : wr.grownBy u5 none) (r5 : u5.ownsRow wr.heap.size 2 1 (.slice a5 n c5) n (vals (stAt z cs us.length) n))
    (ho : w6.ownsRow w.heap.size 22 1 (.slice (some ⟨g', 0, none⟩) (us.length + 1) c') (us.length + 1) (us ++ [.slice a5 n c5])) (hg : (u5.alloc (.cells #[.slice a5 n c5] 22)).grownBy w6 (some g)) :
    DS w a1 n c1 z cs ta tc ys g' c' (us ++ [.slice a5 n c5]) w6 := by
  have H := h.grown (gb_alloc g5 (.cells #[.slice a5 n c5] 22))
  have hrow := H.row
  have keep : ∀ {B E sz v m xs}, (u5.alloc (.cells #[.slice a5 n c5] 22)).ownsRow B E sz v m xs → E ≠ 22 → w6.ownsRow B E sz v m xs := fun {B E sz v m xs} hr hne => ownsRow_keep hr (fun i e => hg.block i (hr.lt i e).2 (fun e2 => by
    cases e2
    exact row_ne hr hrow hne _ e rfl))
  have hlen : us.length ≠ 0 := fun e => by
    have := h.fst
    rw [List.getElem?_eq_none (by omega)] at this
    cases this
  refine ⟨by rw [List.length_append]; exact ho, by rw [List.getElem?_append_left (by omega)]; exact h.fst, fun i u h0 hu => ?_, keep H.tr (by decide), fun x hx => keep (H.ac x hx) (by decide), gb_overO H.grow hg (fun i e => by cases e; exact (H.row.lt g rfl).1)⟩
  by_cases hi : i < us.length
  · rw [List.getElem?_append_left hi] at hu
    obtain ⟨a, c, e, hr⟩ := H.each i u h0 hu
    exact ⟨a, c, e, keep hr (by decide)⟩
  · rw [List.getElem?_append_right (by omega)] at hu
    have hi0 : i - us.length = 0 := by have := (List.getElem?_eq_some_iff.1 hu).1; simp at this; omega
    rw [hi0] at hu
    have hi1 : i = us.length := by omega
    subst hi1
    simp at hu
    subst hu
    have r6 := ownsRow_drop r5 (Nat.zero_le _)
    exact ⟨a5, c5, rfl, keep (r6.alloc _) (by decide)⟩
theorem DS.sts (h : DS w a1 n c1 z cs ta tc ys g oc us wr) (hz : IsNums .i64 w a1 n z) : StsAt wr (some ⟨g, 0, none⟩) us.length n (fun i => stAt z cs i) := by
  have hlt := (h.row.lt g rfl).2
  refine .inr ⟨g, 0, rfl, hlt, fun i hi => ?_⟩
  obtain ⟨ak, ck, e1, e2⟩ := h.val hz hi
  refine ⟨ak, ck, ?_, e2⟩
  rw [Nat.zero_add, ← e1]
  exact h.row.cellAt i (by omega)
end

set_option maxHeartbeats 4000000 in
theorem refstates_any (a1 : Option Addr) (n c1 : Nat) (z : Nat → Int) (a2 : Option Addr) (len cap : Nat) (e : Evs) (w : World) (hz : IsNums .i64 w a1 n z) (hl : IsEvs w a2 len e) (hn : n ≤ 1000) (hlen : len ≤ 1000) :
    Calls Try.prog 23 #[.slice a1 n c1, .slice a2 len cap] w fun r w' => ∃ a m c, r = .returned (.slice a m c) ∧ Hid (m = (cacs e len).length + 1) ∧ Hid (StsAt w' a m n (fun i => stAt z (cacs e len) i)) ∧ Hid (w.grownBy w' none) := by
  have HZ := Lib.hid hz
  have HL := Lib.hid hl
  clear hz hl
  obtain ⟨i0, hi0, hz00, hz10, hz20⟩ := info_parts infoRow
  have hi := Lib.hid hi0
  have hz0 := Lib.hid hz00
  have hz1 := Lib.hid hz10
  have hz2 := Lib.hid hz20
  clear hi0 hz00 hz10 hz20
  have BR := Lib.hid (Blk.made w 22 #[.slice a1 n c1])
  have GA := Lib.hid (World.grownBy_alloc w (.cells #[.slice a1 n c1] 22) none)
  have RO : Hid ((w.alloc (.cells #[.slice a1 n c1] 22)).ownsRow w.heap.size 22 1 (.slice (some ⟨w.heap.size, 0, none⟩) 1 1) 1 [.slice a1 n c1]) := Lib.hid ⟨rfl, .inr ⟨w.heap.size, 1, #[.slice a1 n c1], rfl, Nat.le_refl _, heap_alloc_new w _, Nat.le_refl _, by unfold maxLen; omega, rfl, rfl⟩⟩
  go_enter Try.func23, Try.ntmps23
  go_wp2_with fail
  cases hr : right e len with
  | false =>
    refine (right_doc a2 len cap e _ (HL.out.grown GA.out) (by omega)).mono ?_
    rw [hr]
    rintro r u1 ⟨rfl, g1⟩
    have HC := Lib.hid (show cacs e len = [] by unfold cacs; rw [if_neg (by rw [hr]; simp)])
    go_wp2
    go_ret
    refine ⟨some ⟨w.heap.size, 0, none⟩, 1, 1, rfl, (by show _ = _; rw [HC.out]; rfl), ?_, gb_trans GA.out g1.out⟩
    show StsAt _ _ _ _ _
    rw [HC.out]
    have BR1 := BR.out.grown g1.out (by simp)
    refine .inr ⟨w.heap.size, 0, rfl, BR1.lt, fun i hi => ?_⟩
    obtain rfl : i = 0 := by omega
    exact ⟨a1, c1, BR1.cell 0, HZ.out.grown (gb_trans GA.out g1.out)⟩
  | true =>
    refine (right_doc a2 len cap e _ (HL.out.grown GA.out) (by omega)).mono ?_
    rw [hr]
    rintro r u1 ⟨rfl, g1⟩
    have G1 := Lib.hid (gb_trans GA.out g1.out)
    go_wp2_with fail
    refine (comms_docA a2 len cap e _ (HL.out.grown G1.out) hr (by omega)).mono ?_
    rintro r u2 ⟨ta, tc, ys, rfl, hT, hY, g2, hrt, hra⟩
    have HCS := Lib.hid (show ys.map (fun x => x.1.ac) = cacs e len by unfold cacs; rw [if_pos hr, ← hY.out, List.map_map]; rfl)
    have HCL := Lib.hid (show (cacs e len).length = ys.length by rw [← HCS.out, List.length_map])
    have hyl : ys.length ≤ 1000 := by have h1 := HCL.out; have h2 := cacs_len e len; omega
    have hal : Hid (∀ x ∈ ys, x.1.ac.length ≤ 1000) := Lib.hid (fun x hx => by
      have h1 : x.1 ∈ commsD e len := by rw [← hY.out]; exact List.mem_map_of_mem hx
      have h2 := (commsD_perm e hr).mem_iff.1 h1
      obtain ⟨b, _, _, hb⟩ := (tries_mem e len x.1).1 (List.mem_filter.1 h2).1
      rw [← hb]
      exact Nat.le_trans (hs.trAt_ac e b len) hlen)
    have G12 := Lib.hid (gb_trans g1.out g2.out)
    have D0 : Hid (DS w a1 n c1 z (cacs e len) ta tc ys w.heap.size 1 [.slice a1 n c1] u2) := Lib.hid ⟨ownsRow_keep RO.out (fun k e => G12.out.block k (RO.out.lt k e).2 (by simp)), rfl, fun i u h0 hu => (by
      have := (List.getElem?_eq_some_iff.1 hu).1
      simp at this
      omega), hrt.out, hra.out, gb_trans G1.out g2.out⟩
    clear RO BR hT hrt hra g1 g2 G12 hr
    go_wp2
    go_loopw [5, 7] (fun ov iv wr => ∃ (k g oc : Nat) (us : List Value), k ≤ ys.length ∧ iv = .int .i64 k ∧ ov = .slice (some ⟨g, 0, none⟩) us.length oc ∧ Hid (us.length = k + 1) ∧ Hid (DS w a1 n c1 z (cacs e len) ta tc ys g oc us wr)) (fun _ iv _ => (ys.length - intOf iv).toNat)
    case atStart => exact ⟨0, w.heap.size, 1, [.slice a1 n c1], by omega, rfl, rfl, rfl, D0⟩
    case round =>
      obtain ⟨k, g, oc, us, hk, rfl, rfl, HUL, D⟩ := hrel
      clear D0
      by_cases hlt : k < ys.length
      · have hlt' : (k : Int) < (ys.length : Int) := by omega
        have hk6 : (k : Int) < 1000000 := by omega
        have hku : k < us.length := by have := HUL.out; omega
        have hku' : (k : Int) < (us.length : Int) := by omega
        obtain ⟨ak, ck, e1, NV⟩ := D.out.val HZ.out hku
        have HNV := Lib.hid NV
        have x0 : wr.cell? ⟨g, k, none⟩ = some (.slice ak n ck) := (D.out.row.cellAt k (by omega)).trans e1
        have hgl := (D.out.row.lt g rfl).2
        have hgk := List.getElem?_eq_getElem hlt
        have hmem : ys[k] ∈ ys := List.getElem_mem hlt
        obtain ⟨b, off, rfl, hb, hc⟩ := (IsL.of_own D.out.tr tvC_len rfl).at tvC_len hgk
        have hcs : (cacs e len)[k]? = some ys[k].1.ac := by rw [← HCS.out, List.getElem?_map, hgk]; rfl
        have hac := D.out.ac ys[k] hmem
        have hacl := hal.out ys[k] hmem
        have ST := Lib.hid (stAt_step z hcs)
        obtain ⟨va, vc, hv⟩ := owns_slice hac
        obtain ⟨t, ht⟩ : ∃ t, t = ys[k].1 := ⟨_, rfl⟩
        have hyk : ys[k] = (t, .slice va t.ac.length vc) := Prod.ext ht.symm (by rw [ht]; exact hv)
        rw [hyk] at hc hac hacl ST
        have HAC := Lib.hid (IsL.of_own hac accC_len rfl)
        have d0 : wr.cell? ⟨b, off + k * 9, none⟩ = some (.int .i64 t.th) := hc 0 _ rfl
        have d1 := hc 1 _ rfl; have d2 := hc 2 _ rfl; have d3 := hc 3 _ rfl; have d4 := hc 4 _ rfl; have d5 := hc 5 _ rfl; have d6 := hc 6 _ rfl; have d7 := hc 7 _ rfl; have d8 := hc 8 _ rfl
        dsimp only at hacl ST HAC
        have hul : us.length ≤ 2000 := by have := HUL.out; omega
        clear hgk hmem hcs hac hv ht hyk hc e1 NV
        go_wp2
        go_region_law (first
          | (refine step_call rfl 40 #[.slice ak n ck, .agg #[.int .i64 t.th, .int .i64 t.tx, .int .i64 t.at_, .int .i64 t.st, .int .i64 t.b, .int .i64 t.en, .int .i64 t.re, .bool t.co, .slice va t.ac.length vc]] (by simp [Act.eval, go_sem]) (refapply_any ak n ck (stAt z (cacs e len) k) t va vc wr.drew (HNV.out.grown (gb_drew (gb_refl wr none))) (HAC.out.grown (gb_drew (gb_refl wr none))) (by omega) (by omega)) ?_; rintro r u5 ⟨a5, c5, rfl, hr5, g5⟩; refine ⟨_, rfl, ?_⟩; have D5 := Lib.hid ((D.out.grown (gb_drew (gb_refl wr none))).grown g5.out))
          | (refine step_append_at rfl (.tmp 22) (.tmp 32) 45 rfl w.heap.size 22 i0 (.slice none 0 0) 1 24 Try.underlying45 hi.out hz0.out hz1.out hz2.out rfl (by decide) (.slice (some ⟨g, 0, none⟩) us.length oc) us.length us rfl (D5.out.row.alloc _) ⟨u5.heap.size, 0, none⟩ 1 1 [.slice a5 n c5] rfl rfl (new_cells u5 _ _) (by intro u hu; simp at hu; subst hu; rfl) (by unfold maxLen; omega) (by omega) (by have := D5.out.grow.size; simp; omega) (by decide) ?_; intro g' c' w6 ho hg hv))
        all_goals
          go_wp2
          go_roundw
          case rel =>
            refine ⟨k + 1, g', c', us ++ [.slice a5 n c5], by omega, by go_num, by rw [List.length_append]; rfl, by show _ = _; rw [List.length_append, HUL.out]; rfl, Lib.hid ((D.out.grown (gb_drew (gb_refl wr none))).app g5.out ?_ ho hg)⟩
            rw [HUL.out, ST.out]
            exact hr5.out
          case measure => simp [intOf]; omega
      · obtain rfl : k = ys.length := by omega
        go_wp2
        go_ret
        exact ⟨some ⟨g, 0, none⟩, us.length, oc, rfl, (by show _ = _; rw [HCL.out]; exact HUL.out), D.out.sts HZ.out, D.out.grow⟩
end Go.Proofs.Ytkidkhjpijjphaa.md
