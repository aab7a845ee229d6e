/- The contracts of package desc, over whatever translation they lie in: a table is a block of an arena's address and a map's; each descriptor is three words. -/
import Derived.Test.YtnaagcofgnmmlaaArenaR
import Derived.Test.YtnaagcofgnmmlaaWd
import Derived.Test.YtnaagcofgnmmlaaMap
namespace Go.Proofs.Ytnaagcofgnmmlaa.ds
open Go Go.RowKit Go.Proofs.Ytnaagcofgnmmlaa.base Go.Proofs.Ytnaagcofgnmmlaa.ar Go.Proofs.Ytnaagcofgnmmlaa.wd

/-- What the map has of a descriptor: its three words. -/
abbrev dval (f : Nat → Nat) : Value := .agg #[.pointer (some ⟨f 0, 0, none⟩), .pointer (some ⟨f 1, 0, none⟩), .pointer (some ⟨f 2, 0, none⟩)]

theorem zeroD (w : World) : (zeroValue 141).run Try.prog w = .ok (.agg #[.pointer none, .pointer none, .pointer none]) w := by kernel_rfl

/-- Block tb is a table on the arena in block ab, its map in block mb, of m descriptors: those whose number 'is' says; blk tells their words' blocks, num what these have (status, priority, waiting); no word was accessed more often than B times. -/
structure Tab (base : Nat) (w : World) (tb mb ab m : Nat) (is : Int → Bool) (blk : Int → Nat → Nat) (num : Int → Nat → Int) (B : Int) : Prop where
  tb_le : base ≤ tb
  mb_le : base ≤ mb
  tab : Blk 89 w tb #[.pointer (some ⟨ab, 0, none⟩), .map (some mb)]
  map : MapF Try.prog 3 w mb m (fun j => if is j then some (dval (blk j)) else none)
  word : ∀ j c, is j = true → c < 3 → base ≤ blk j c ∧ ∃ a, 0 ≤ a ∧ a ≤ B ∧ Word w (blk j c) (num j c) a
  apart : ∀ j c j' c', is j = true → is j' = true → c < 3 → c' < 3 → blk j c = blk j' c' → j = j' ∧ c = c'

/-- One number changed. -/
def upd (num : Int → Nat → Int) (j : Int) (c : Nat) (v : Int) : Int → Nat → Int := fun j' c' => if j' = j ∧ c' = c then v else num j' c'
theorem upd_self (num : Int → Nat → Int) (j : Int) (c : Nat) : upd num j c (num j c) = num := by
  funext j' c'
  unfold upd
  split
  · next h => rw [h.1, h.2]
  · rfl
theorem upd_hit (num : Int → Nat → Int) (j : Int) (c : Nat) (v : Int) : upd num j c v j c = v := by simp [upd]
theorem upd_other (num : Int → Nat → Int) (j : Int) (c : Nat) (v : Int) (j' : Int) (c' : Nat) (h : j' ≠ j ∨ c' ≠ c) : upd num j c v j' c' = num j' c' := by
  unfold upd
  rw [if_neg]
  rintro ⟨rfl, rfl⟩
  rcases h with h | h <;> exact h rfl

section
variable {base : Nat} {w w' : World} {tb mb ab m : Nat} {is : Int → Bool} {blk : Int → Nat → Nat} {num : Int → Nat → Int} {B : Int}

/-- The words' blocks. -/
def Own (is : Int → Bool) (blk : Int → Nat → Nat) (k : Nat) : Prop := ∃ j c, is j = true ∧ c < 3 ∧ k = blk j c

theorem Tab.word_lt (h : Tab base w tb mb ab m is blk num B) {j : Int} {c : Nat} (hj : is j = true) (hc : c < 3) : blk j c < w.heap.size := by
  obtain ⟨_, a, _, _, hw⟩ := h.word j c hj hc
  exact hw.lt
theorem Tab.tb_ne (h : Tab base w tb mb ab m is blk num B) {j : Int} {c : Nat} (hj : is j = true) (hc : c < 3) : tb ≠ blk j c := by
  intro e
  obtain ⟨_, a, _, _, hw⟩ := h.word j c hj hc
  have ht := h.tab
  unfold Blk at ht
  unfold Word Two at hw
  rw [← e, ht] at hw
  simp at hw
theorem Tab.mb_ne (h : Tab base w tb mb ab m is blk num B) {j : Int} {c : Nat} (hj : is j = true) (hc : c < 3) : mb ≠ blk j c := by
  intro e
  obtain ⟨_, a, _, _, hw⟩ := h.word j c hj hc
  unfold Word Two at hw
  rw [← e] at hw
  exact h.map.not_cells hw
theorem Tab.tb_mb (h : Tab base w tb mb ab m is blk num B) : tb ≠ mb := by
  intro e
  have ht := h.tab
  unfold Blk at ht
  rw [e] at ht
  exact h.map.not_cells ht

theorem Tab.keep (h : Tab base w tb mb ab m is blk num B) (h1 : w'.heap[tb]? = w.heap[tb]?) (h2 : w'.heap[mb]? = w.heap[mb]?) (h3 : ∀ j c, is j = true → c < 3 → w'.heap[blk j c]? = w.heap[blk j c]?) : Tab base w' tb mb ab m is blk num B :=
  ⟨h.tb_le, h.mb_le, h.tab.keep h1, h.map.keep h2, fun j c hj hc => by
    obtain ⟨hb, a, l, u, hw⟩ := h.word j c hj hc
    exact ⟨hb, a, l, u, (h3 j c hj hc).trans hw⟩, h.apart⟩
theorem Tab.grown (h : Tab base w tb mb ab m is blk num B) (g : w.grownBy w' none) : Tab base w' tb mb ab m is blk num B :=
  h.keep (g.block _ h.tab.lt (by simp)) (g.block _ h.map.lt (by simp)) (fun j c hj hc => g.block _ (h.word_lt hj hc) (by simp))
theorem Tab.alloc (h : Tab base w tb mb ab m is blk num B) (o : Obj) : Tab base (w.alloc o) tb mb ab m is blk num B := h.grown (gb_alloc (gb_refl _ _) o)
theorem Tab.drew (h : Tab base w tb mb ab m is blk num B) : Tab base w.drew tb mb ab m is blk num B := h.keep rfl rfl (fun _ _ _ _ => rfl)
theorem Tab.drewN (h : Tab base w tb mb ab m is blk num B) (k : Nat) : Tab base (w.drewN k) tb mb ab m is blk num B := h.keep rfl rfl (fun _ _ _ _ => rfl)
theorem Tab.only {S : Nat → Prop} (h : Tab base w tb mb ab m is blk num B) (g : Only S w w') (h1 : ¬ S tb) (h2 : ¬ S mb) (h3 : ∀ j c, is j = true → c < 3 → ¬ S (blk j c)) : Tab base w' tb mb ab m is blk num B :=
  h.keep (g.block _ h.tab.lt h1) (g.block _ h.map.lt h2) (fun j c hj hc => g.block _ (h.word_lt hj hc) (h3 j c hj hc))
/-- A put into an arena changes nothing of it. -/
theorem Tab.chg {b : Nat} {room : Int} {rs : List Rc} {r r' : Option Nat} (h : Tab base w tb mb ab m is blk num B) (A : ArenaR base w b room rs r) (c : Chg b r r' w w') : Tab base w' tb mb ab m is blk num B := by
  have A0 := A
  obtain ⟨_, _, v, hb, ho, hr⟩ := A
  have notRow : ∀ {k : Nat} {cs : Array Value} {t : TypeId}, Blk t w k cs → t ≠ 72 → some k ≠ r := by
    intro k cs t hk hne
    exact Fld.row_type A0 hk hne
  refine h.keep (c.block _ h.tab.lt ?_ (notRow h.tab (by decide))) (c.block _ h.map.lt ?_ ?_) (fun j cc hj hc => ?_)
  · intro e
    have ht := h.tab
    unfold Blk at ht hb
    rw [e, hb] at ht
    simp at ht
  · intro e
    unfold Blk at hb
    rw [← e] at hb
    exact h.map.not_cells hb
  · intro e
    rcases ho.2 with ⟨rfl, _⟩ | ⟨g, cap, cur, rfl, _, hg, _⟩
    · rw [← hr] at e; simp [Value.ownBlock] at e
    · rw [← hr] at e
      simp only [Value.ownBlock] at e
      cases e
      exact h.map.not_cells hg
  · obtain ⟨_, a, _, _, hw⟩ := h.word j cc hj hc
    refine c.block _ hw.lt ?_ (notRow (cs := #[.int .i64 (num j cc), .int .i64 a]) hw (by decide))
    intro e
    unfold Word Two at hw
    unfold Blk at hb
    rw [e, hb] at hw
    simp at hw

/-- A word was changed. -/
theorem Tab.set (h : Tab base w tb mb ab m is blk num B) {j : Int} {c : Nat} {v a B' : Int} (hj : is j = true) (hc : c < 3) (g : w.grownBy w' (some (blk j c))) (hw : Word w' (blk j c) v a) (l : 0 ≤ a) (u : a ≤ B') (hB : B ≤ B') :
    Tab base w' tb mb ab m is blk (upd num j c v) B' := by
  refine ⟨h.tb_le, h.mb_le, h.tab.grown g (by have := h.tb_ne hj hc; simpa using this), h.map.keep (g.block _ h.map.lt (by have := h.mb_ne hj hc; simpa using this)), fun j' c' hj' hc' => ?_, h.apart⟩
  obtain ⟨hb, a', l', u', hw'⟩ := h.word j' c' hj' hc'
  refine ⟨hb, ?_⟩
  by_cases e : blk j' c' = blk j c
  · obtain ⟨rfl, rfl⟩ := h.apart _ _ _ _ hj' hj hc' hc e
    exact ⟨a, l, u, by rw [upd_hit]; exact hw⟩
  · refine ⟨a', l', by omega, ?_⟩
    rw [upd_other _ _ _ _ _ _ (by
      by_cases h1 : j' = j
      · right; intro h2; exact e (by rw [h1, h2])
      · exact .inl h1)]
    exact hw'.grown g (by simpa using e)
end

end Go.Proofs.Ytnaagcofgnmmlaa.ds
