/- Package cells: what its cells are, in memory; its words. -/
import Derived.Test.YtnaagcofgnmmlaaMem
import Derived.Test.YtnaagcofgnmmlaaInts
import Derived.Test.YtnaagcofgnmmlaaVals
namespace Go.Proofs.Ytnaagcofgnmmlaa.ce
open Go Go.RowKit Go.Proofs.Ytnaagcofgnmmlaa.base Go.Proofs.Ytnaagcofgnmmlaa.ar Go.Proofs.Ytnaagcofgnmmlaa.wd Go.Proofs.Ytnaagcofgnmmlaa.rf Go.Proofs.Ytnaagcofgnmmlaa.mm Go.Proofs.Ytnaagcofgnmmlaa.vl Go.Proofs.Ytnaagcofgnmmlaa.ds
set_option linter.unusedVariables false

/-- The addresses of n words, as a row of cells. -/
def ptrs (wb : Nat → Nat) (n : Nat) : List Value := (List.range n).map fun i => .pointer (some ⟨wb i, 0, none⟩)
theorem ptrs_length (wb : Nat → Nat) (n : Nat) : (ptrs wb n).length = n := by simp [ptrs]
theorem ptrs_succ (wb : Nat → Nat) (n : Nat) : ptrs wb (n + 1) = ptrs wb n ++ [.pointer (some ⟨wb n, 0, none⟩)] := by simp [ptrs, List.range_succ]
theorem ptrs_get (wb : Nat → Nat) (n j : Nat) (h : j < n) : (ptrs wb n)[j]? = some (.pointer (some ⟨wb j, 0, none⟩)) := by simp [ptrs, h]
theorem ptrs_congr (wb wb' : Nat → Nat) (n : Nat) (h : ∀ j, j < n → wb j = wb' j) : ptrs wb n = ptrs wb' n := by
  apply List.map_congr_left
  intro i hi
  rw [h i (by simpa using hi)]

/-- Block cb is a struct of the arena in block ab and a row of words: these lie in the blocks that wb tells, and have the numbers of hd; none was accessed more often than B times. -/
structure CelC (base : Nat) (w : World) (cb ab : Nat) (hd : List Int) (B : Int) (r : Option Nat) (wb : Nat → Nat) : Prop where
  fld : Fld 93 97 1 base w cb [.pointer (some ⟨ab, 0, none⟩)] [] hd.length (ptrs wb hd.length) r
  word : ∀ j p, hd[j]? = some p → base ≤ wb j ∧ ∃ a, 0 ≤ a ∧ a ≤ B ∧ Word w (wb j) p a
  apart : ∀ j k, j < hd.length → k < hd.length → wb j = wb k → j = k

/-- The blocks of these. -/
def CF (cb : Nat) (r : Option Nat) (wb : Nat → Nat) (n : Nat) (k : Nat) : Prop := k = cb ∨ some k = r ∨ ∃ j, j < n ∧ k = wb j

section
variable {base : Nat} {w w' : World} {cb ab : Nat} {hd : List Int} {B : Int} {r : Option Nat} {wb : Nat → Nat}
theorem gb_weak {r : Option Nat} (h : w.grownBy w' none) : w.grownBy w' r := ⟨h.os, h.tape, h.output, h.size, fun k hk _ => h.block k hk (by simp)⟩
theorem CelC.at (h : CelC base w cb ab hd B r wb) {j : Nat} (hj : j < hd.length) : base ≤ wb j ∧ wb j < w.heap.size := by
  obtain ⟨p, hp⟩ : ∃ p, hd[j]? = some p := ⟨_, List.getElem?_eq_getElem hj⟩
  obtain ⟨hb, a, _, _, hw⟩ := h.word j p hp
  exact ⟨hb, hw.lt⟩
theorem CelC.foot (h : CelC base w cb ab hd B r wb) : ∀ k, CF cb r wb hd.length k → base ≤ k ∧ k < w.heap.size := by
  intro k hk
  rcases hk with rfl | hk | ⟨j, hj, rfl⟩
  · exact ⟨h.fld.base_le, h.fld.lt⟩
  · exact h.fld.row_lt k hk.symm
  · exact h.at hj
theorem CelC.keep (h : CelC base w cb ab hd B r wb) (hk : ∀ k, CF cb r wb hd.length k → w'.heap[k]? = w.heap[k]?) : CelC base w' cb ab hd B r wb :=
  ⟨h.fld.keep (hk _ (.inl rfl)) (fun k e => hk k (.inr (.inl e.symm))), fun j p hp => by
    obtain ⟨hb, a, l, u, hw⟩ := h.word j p hp
    exact ⟨hb, a, l, u, (hk _ (.inr (.inr ⟨j, (List.getElem?_eq_some_iff.1 hp).1, rfl⟩))).trans hw⟩, h.apart⟩
theorem CelC.grown (h : CelC base w cb ab hd B r wb) (g : w.grownBy w' none) : CelC base w' cb ab hd B r wb := h.keep fun k hk => g.block k (h.foot k hk).2 (by simp)
theorem CelC.mono {B' : Int} (h : CelC base w cb ab hd B r wb) (hB : B ≤ B') : CelC base w cb ab hd B' r wb :=
  ⟨h.fld, fun j p hp => by
    obtain ⟨hb, a, l, u, hw⟩ := h.word j p hp
    exact ⟨hb, a, l, by omega, hw⟩, h.apart⟩
/-- A word is neither the struct, nor the row. -/
theorem CelC.ne (h : CelC base w cb ab hd B r wb) {j : Nat} (hj : j < hd.length) : cb ≠ wb j ∧ r ≠ some (wb j) := by
  obtain ⟨p, hp⟩ : ∃ p, hd[j]? = some p := ⟨_, List.getElem?_eq_getElem hj⟩
  obtain ⟨_, a, _, _, hw⟩ := h.word j p hp
  refine ⟨fun e => ?_, fun e => ?_⟩
  · obtain ⟨_, _, b1, _, _⟩ := h.fld.open
    unfold Blk at b1
    unfold Word Two at hw
    rw [← e, b1] at hw
    simp at hw
  · exact Fld.row_type h.fld (cs := #[.int .i64 p, .int .i64 a]) hw (by decide) e.symm
/-- One word was changed. -/
theorem CelC.set (h : CelC base w cb ab hd B r wb) {j : Nat} {p v a' B' : Int} (hp : hd[j]? = some p) (g : w.grownBy w' (some (wb j))) (W : Word w' (wb j) v a') (l : 0 ≤ a') (u : a' ≤ B') (hB : B ≤ B') : CelC base w' cb ab (hd.set j v) B' r wb := by
  have hj := (List.getElem?_eq_some_iff.1 hp).1
  obtain ⟨n1, n2⟩ := h.ne hj
  refine ⟨?_, fun k q hq => ?_, ?_⟩
  · rw [List.length_set]
    exact h.fld.keep (g.block cb h.fld.lt (fun e => n1 (by simpa using e))) (fun k e => g.block k (h.fld.row_lt k e).2 (fun e2 => n2 (by rw [e, e2])))
  · by_cases e : k = j
    · subst e
      rw [List.getElem?_set_self hj] at hq
      obtain rfl : v = q := by simpa using hq
      exact ⟨(h.at hj).1, a', l, u, W⟩
    · rw [List.getElem?_set_ne (fun e2 => e e2.symm)] at hq
      obtain ⟨hb, a, l0, u0, hw⟩ := h.word k q hq
      exact ⟨hb, a, l0, by omega, hw.grown g (fun e2 => e (h.apart k j (List.getElem?_eq_some_iff.1 hq).1 hj (by simpa using e2)))⟩
  · rw [List.length_set]
    exact h.apart
theorem set_same {l : List Int} {j : Nat} {p : Int} (hp : l[j]? = some p) : l.set j p = l := by
  apply List.ext_getElem?
  intro k
  by_cases e : k = j
  · subst e
    rw [List.getElem?_set_self (List.getElem?_eq_some_iff.1 hp).1, hp]
  · rw [List.getElem?_set_ne (fun e2 => e e2.symm)]
end

/-- Block cb is cells over an arena in block ab of rs, with a table in block tb on it; the cells' numbers are hd. -/
def Cel (base : Nat) (w : World) (cb tb ab : Nat) (room : Int) (rs : List Rc) (hd : List Int) (m : Nat) (is : Int → Bool) (num : Int → Nat → Int) (B : Int) (F : Nat → Prop) : Prop :=
  ∃ G r wb, Mem base w tb ab room rs m is num B G ∧ CelC base w cb ab hd B r wb ∧ Sep (CF cb r wb hd.length) G ∧ (rs.length : Int) ≤ room ∧ F = fun k => G k ∨ CF cb r wb hd.length k

section
variable {base : Nat} {w w' : World} {cb tb ab m : Nat} {room : Int} {rs : List Rc} {hd : List Int} {is : Int → Bool} {num : Int → Nat → Int} {B : Int} {F : Nat → Prop}
theorem Cel.foot (h : Cel base w cb tb ab room rs hd m is num B F) : ∀ k, F k → base ≤ k ∧ k < w.heap.size := by
  obtain ⟨G, r, wb, M, K, _, _, rfl⟩ := h
  intro k hk
  rcases hk with hk | hk
  · exact M.foot k hk
  · exact K.foot k hk
theorem Cel.keep (h : Cel base w cb tb ab room rs hd m is num B F) (hk : ∀ k, F k → w'.heap[k]? = w.heap[k]?) : Cel base w' cb tb ab room rs hd m is num B F := by
  obtain ⟨G, r, wb, M, K, hs, hl, rfl⟩ := h
  exact ⟨G, r, wb, M.keep (fun k e => hk k (.inl e)), K.keep (fun k e => hk k (.inr e)), hs, hl, rfl⟩
theorem Cel.grown (h : Cel base w cb tb ab room rs hd m is num B F) (g : w.grownBy w' none) : Cel base w' cb tb ab room rs hd m is num B F := h.keep fun k hk => g.block k (h.foot k hk).2 (by simp)
theorem Cel.only {S : Nat → Prop} (h : Cel base w cb tb ab room rs hd m is num B F) (g : Only S w w') (hs : Sep F S) : Cel base w' cb tb ab room rs hd m is num B F := h.keep fun k hk => g.block k (h.foot k hk).2 (hs k hk)
theorem Cel.mono {B' : Int} (h : Cel base w cb tb ab room rs hd m is num B F) (hB : B ≤ B') : Cel base w cb tb ab room rs hd m is num B' F := by
  obtain ⟨G, r, wb, M, K, hs, hl, rfl⟩ := h
  exact ⟨G, r, wb, M.mono hB, K.mono hB, hs, hl, rfl⟩
theorem Cel.base_size (h : Cel base w cb tb ab room rs hd m is num B F) : base ≤ w.heap.size := by
  obtain ⟨G, r, wb, M, K, hs, hl, rfl⟩ := h
  exact M.base_size
theorem Cel.fits (h : Cel base w cb tb ab room rs hd m is num B F) : (rs.length : Int) ≤ room := by
  obtain ⟨G, r, wb, M, K, hs, hl, rfl⟩ := h
  exact hl
/-- What only looks. -/
theorem Cel.looked (h : Cel base w cb tb ab room rs hd m is num B F) (g : w.grownBy w' none) : Cel base w' cb tb ab room rs hd m is num (B + 100) F ∧ Step F F w w' := ⟨(h.grown g).mono (by omega), Step.none g⟩
/-- What is done to the memory alone. -/
theorem Cel.mem (h : Cel base w cb tb ab room rs hd m is num B F) : ∃ G, Mem base w tb ab room rs m is num B G ∧ ∀ (w' : World) (rs' : List Rc) (m' : Nat) (is' : Int → Bool) (num' : Int → Nat → Int) (B' : Int) (G' : Nat → Prop), (rs'.length : Int) ≤ room → Mem base w' tb ab room rs' m' is' num' B' G' → Step G G' w w' → B ≤ B' →
    ∃ F', Cel base w' cb tb ab room rs' hd m' is' num' B' F' ∧ Step F F' w w' := by
  obtain ⟨G, r, wb, M, K, hs, hl, rfl⟩ := h
  refine ⟨G, M, fun w' rs' m' is' num' B' G' hl' M' S hB => ⟨_, ⟨G', r, wb, M', (K.keep fun k hk => S.only.block k (K.foot k hk).2 (hs k hk)).mono hB, ?_, hl', rfl⟩, ?_⟩⟩
  · exact (hs.symm.step S (fun k hk => (K.foot k hk).2)).symm
  · refine ⟨S.only.mono (fun k _ hk => .inl hk), fun k hk => ?_⟩
    rcases hk with hk | hk
    · rcases S.foot k hk with h1 | h1
      · exact .inl (.inl h1)
      · exact .inr h1
    · exact .inl (.inr hk)
/-- What is done to descriptors' words alone. -/
theorem Cel.memSame (h : Cel base w cb tb ab room rs hd m is num B F) : ∃ G, Mem base w tb ab room rs m is num B G ∧ ∀ (w' : World) (num' : Int → Nat → Int) (B' : Int), Mem base w' tb ab room rs m is num' B' G → Step G G w w' → B ≤ B' →
    Cel base w' cb tb ab room rs hd m is num' B' F ∧ Step F F w w' := by
  obtain ⟨G, r, wb, M, K, hs, hl, rfl⟩ := h
  refine ⟨G, M, fun w' num' B' M' S hB => ⟨⟨G, r, wb, M', (K.keep fun k hk => S.only.block k (K.foot k hk).2 (hs k hk)).mono hB, hs, hl, rfl⟩, ?_⟩⟩
  exact ⟨S.only.mono (fun k _ hk => .inl hk), fun k hk => .inl hk⟩
/-- A word was changed. -/
theorem Cel.word {G : Nat → Prop} {r : Option Nat} {wb : Nat → Nat} (M : Mem base w tb ab room rs m is num B G) (K : CelC base w cb ab hd B r wb) (hs : Sep (CF cb r wb hd.length) G) (hl : (rs.length : Int) ≤ room) {j : Nat} {p v a' B' : Int} (hp : hd[j]? = some p) (g : w.grownBy w' (some (wb j))) (W : Word w' (wb j) v a') (l : 0 ≤ a') (u : a' ≤ B') (hB' : B ≤ B') :
    Cel base w' cb tb ab room rs (hd.set j v) m is num B' (fun k => G k ∨ CF cb r wb hd.length k) ∧ Step (fun k => G k ∨ CF cb r wb hd.length k) (fun k => G k ∨ CF cb r wb hd.length k) w w' := by
  have hj := (List.getElem?_eq_some_iff.1 hp).1
  have hc : CF cb r wb hd.length (wb j) := .inr (.inr ⟨j, hj, rfl⟩)
  refine ⟨⟨G, r, wb, (M.keep fun k hk => g.block k (M.foot k hk).2 (fun e => hs _ hc (by cases e; exact hk))).mono hB', K.set hp g W l u hB', by rw [List.length_set]; exact hs, hl, by rw [List.length_set]⟩, Step.of g (fun k e => by cases e; exact .inr hc)⟩
end

/-- A descriptor's status, as the table has it: 0 of none. -/
def stt (is : Int → Bool) (num : Int → Nat → Int) (j : Int) : Int := if is j then num j 0 else 0

/-- The record of a number. -/
def recAt (rs : List Rc) (k : Int) : Option Rc := if 0 ≤ k then rs[k.toNat]? else none
/-- .. that is of a kind. -/
def IsK (rs : List Rc) (k q : Int) : Prop := ∃ x, recAt rs k = some x ∧ x.kind = q

end Go.Proofs.Ytnaagcofgnmmlaa.ce
