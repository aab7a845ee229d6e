/- Package lang's course: what it is in memory, and what its methods do. -/
import Derived.Test.YtdohepenmejcaaaLangB
import Derived.Test.YtdohepenmejcaaaMap
import Derived.Deep.OwnRows
namespace Go.Proofs.Ytdohepenmejcaaa.lg
open Go Go.RowKit Go.Proofs.Ytdohepenmejcaaa.base
set_option linter.unusedVariables false

/-- Block c is a course whose sum is s, and whose n values f tells; these lie in block r. -/
def Crs (base : Nat) (w : World) (c : Nat) (s : Int) (n : Nat) (f : Nat → Int) (r : Option Nat) : Prop := Fld 112 2 1 base w c [.int .i64 s] [] n (vals f n) r

section
variable {base : Nat} {w w' : World} {c : Nat} {s : Int} {n : Nat} {f : Nat → Int} {r : Option Nat}
theorem Crs.grown (h : Crs base w c s n f r) (g : w.grownBy w' none) : Crs base w' c s n f r := Fld.grown h g
theorem Crs.congr (h : Crs base w c s n f r) {f' : Nat → Int} (e : ∀ i, i < n → f i = f' i) : Crs base w c s n f' r := by
  have : vals f n = vals f' n := List.map_congr_left fun i hi => by rw [e i (by simpa using hi)]
  unfold Crs at h ⊢
  rw [← this]
  exact h
theorem Crs.cell0 (h : Crs base w c s n f r) : w.cell? ⟨c, 0, none⟩ = some (.int .i64 s) ∧ w.frozen? ⟨c, 0, none⟩ = false := by
  obtain ⟨_, _, v, hb, _⟩ := h
  exact ⟨hb.cell 0, hb.free 0⟩
/-- The sum is stored. -/
theorem Crs.sum (h : Crs base w c s n f r) (u : Int) : Crs base (w.setCell ⟨c, 0, none⟩ (.int .i64 u)) c u n f r ∧ Chg c r r w (w.setCell ⟨c, 0, none⟩ (.int .i64 u)) := by
  obtain ⟨h1, h2, v, h3, ho, rfl⟩ := h
  refine ⟨⟨h1, h2, v, ?_, ownsRow_setCell_other ho h2 _, rfl⟩, ⟨rfl, rfl, rfl, by simp [World.setCell], fun k hk hkb _ => Below.heap_setCell _ _ _ _ hkb, .inl rfl⟩⟩
  have := h3.set 0 (.int .i64 u)
  simpa using this
/-- Value i lies there. -/
theorem Crs.at (h : Crs base w c s n f r) {i : Nat} (hi : i < n) : ∃ g cap, r = some g ∧ base ≤ g ∧ g ≠ c ∧ g < w.heap.size ∧ w.cell? ⟨c, 1, none⟩ = some (.slice (some ⟨g, 0, none⟩) n cap) ∧ w.cell? ⟨g, i, none⟩ = some (.int .i64 (f i)) ∧ w.frozen? ⟨g, i, none⟩ = false := by
  obtain ⟨h1, h2, v, h3, ho, rfl⟩ := h
  rcases ho.2 with ⟨rfl, h0⟩ | ⟨g, cap, cur, rfl, hb, hg, _⟩
  · omega
  · refine ⟨g, cap, rfl, hb, fun e => h2 (by rw [e]; rfl), lt_of_block hg, h3.cell 1, ?_, ?_⟩
    · exact (ho.cellAt i (by omega)).trans (vals_get f n i hi)
    · simp [World.frozen?, hg]
end

theorem vals_set (f : Nat → Int) (n i : Nat) (u : Int) : (vals f n).set i (.int .i64 u) = vals (fun j => if j = i then u else f j) n := by
  apply List.ext_getElem?
  intro j
  by_cases hj : j < n
  · by_cases e : j = i
    · subst e
      rw [List.getElem?_set_self (by simpa [vals] using hj), vals_get _ _ _ hj]
      simp
    · rw [List.getElem?_set_ne (fun e2 => e e2.symm), vals_get _ _ _ hj, vals_get _ _ _ hj]
      simp [e]
  · rw [List.getElem?_eq_none (by simp [vals]; omega), List.getElem?_eq_none (by simp [vals]; omega)]

/-- A cell of a row of one's own is stored. -/
theorem ownsRow_set {base : Nat} {e : TypeId} {w : World} {v : Value} {n : Nat} {xs : List Value} (h : w.ownsRow base e 1 v n xs) {g i : Nat} (hg : v.ownBlock = some g) (hi : i < n) (u : Value) : (w.setCell ⟨g, i, none⟩ u).ownsRow base e 1 v n (xs.set i u) := by
  refine ⟨by rw [List.length_set]; exact h.1, ?_⟩
  rcases h.2 with ⟨rfl, _⟩ | ⟨g', cap, cur, rfl, h4, h5, h6, h7, h8, h9⟩
  · simp [Value.ownBlock] at hg
  · obtain rfl : g' = g := by simpa [Value.ownBlock] using hg
    have hb : Blk e w g' cur := h5
    refine .inr ⟨g', cap, cur.setIfInBounds i u, rfl, h4, hb.set i u, h6, h7, by simpa using h8, ?_⟩
    have hx := h.1
    have hs : i < cur.size := by rw [h8]; omega
    rw [← h9]
    simp only [Array.toList_setIfInBounds]
    rw [List.take_set]

section
variable {base : Nat} {w w' : World} {c : Nat} {s : Int} {n : Nat} {f : Nat → Int} {r : Option Nat}
/-- Value i is stored. -/
theorem Crs.set (h : Crs base w c s n f r) {i g : Nat} (hi : i < n) (hr : r = some g) (u : Int) : Crs base (w.setCell ⟨g, i, none⟩ (.int .i64 u)) c s n (fun j => if j = i then u else f j) r ∧ Chg c r r w (w.setCell ⟨g, i, none⟩ (.int .i64 u)) := by
  obtain ⟨h1, h2, v, h3, ho, rfl⟩ := h
  refine ⟨⟨h1, h2, v, h3.other (fun e => h2 (by rw [hr]; exact congrArg some e.symm)) _, ?_, rfl⟩, ⟨rfl, rfl, rfl, by simp [World.setCell], fun k hk _ hkr => Below.heap_setCell _ _ _ _ (fun e => hkr (by rw [hr, e])), .inl rfl⟩⟩
  rw [← vals_set]
  exact ownsRow_set ho hr hi _
theorem Chg.refl' (c : Nat) (r : Option Nat) (w : World) : Chg c r r w w := ⟨rfl, rfl, rfl, Nat.le_refl _, fun _ _ _ _ => rfl, .inl rfl⟩
theorem Chg.then {w2 : World} (h : Chg c r r w w') (k : Chg c r r w' w2) : Chg c r r w w2 :=
  ⟨k.os.trans h.os, k.tape.trans h.tape, k.output.trans h.output, Nat.le_trans h.size k.size, fun i hi h1 h2 => (k.block i (Nat.lt_of_lt_of_le hi h.size) h1 h2).trans (h.block i hi h1 h2), .inl rfl⟩
theorem Chg.none (g : w.grownBy w' none) : Chg c r r w w' := ⟨g.os, g.tape, g.output, g.size, fun i hi _ _ => g.block i hi (by simp), .inl rfl⟩
end

theorem read_any (base : Nat) (w : World) (c : Nat) (s : Int) (n : Nat) (f : Nat → Int) (r : Option Nat) (k a : Int) (i : Nat) (hi : i < n) (h : Crs base w c s n f r) :
    Calls Try.prog 62 #[.pointer (some ⟨c, 0, none⟩), .agg #[.int .i64 k, .int .i64 i, .int .i64 a]] w fun e w' => e = .returned (.tuple #[]) ∧ Hid (Crs base w' c (f i) n (f) r) ∧ Hid (Chg c r r w w') := by
  have H := Lib.hid (h.grown (World.grownBy_alloc w (.cells #[.int .i64 k, .int .i64 i, .int .i64 a] 102) none))
  have G := Lib.hid (World.grownBy_alloc w (.cells #[.int .i64 k, .int .i64 i, .int .i64 a] 102) none)
  have O := Lib.hid (Blk.made w 102 #[.int .i64 k, .int .i64 i, .int .i64 a])
  clear h
  go_enter Try.func62, Try.ntmps62
  go_upto_region 1 with fail
  generalize w.alloc _ = v at *
  generalize w.heap.size = ob at *
  obtain ⟨g, cap, hr, hb, hgc, hgl, c1, cv, fv⟩ := H.out.at hi
  obtain ⟨c0, f0⟩ := H.out.cell0
  have o1 : v.cell? ⟨ob, 1, none⟩ = some (.int .i64 i) := O.out.cell 1
  have hi' : (i : Int) < (n : Int) := by omega
  have HR := Lib.hid hr
  clear hr
  have h0 : (0 : Int) ≤ (i : Int) := by omega
  go_region
  go_wp2
  first | go_end0 | refine bodyPost_ret (results_none rfl _ _ _) rfl ?_
  exact ⟨rfl, (H.out.sum _).1, Chg.then (Chg.none G.out) (H.out.sum _).2.drew⟩

theorem write_any (base : Nat) (w : World) (c : Nat) (s : Int) (n : Nat) (f : Nat → Int) (r : Option Nat) (k a : Int) (i : Nat) (hi : i < n) (h : Crs base w c s n f r) :
    Calls Try.prog 63 #[.pointer (some ⟨c, 0, none⟩), .agg #[.int .i64 k, .int .i64 i, .int .i64 a]] w fun e w' => e = .returned (.tuple #[]) ∧ Hid (Crs base w' c (s) n (fun j => if j = i then s else f j) r) ∧ Hid (Chg c r r w w') := by
  have H := Lib.hid (h.grown (World.grownBy_alloc w (.cells #[.int .i64 k, .int .i64 i, .int .i64 a] 102) none))
  have G := Lib.hid (World.grownBy_alloc w (.cells #[.int .i64 k, .int .i64 i, .int .i64 a] 102) none)
  have O := Lib.hid (Blk.made w 102 #[.int .i64 k, .int .i64 i, .int .i64 a])
  clear h
  go_enter Try.func63, Try.ntmps63
  go_upto_region 1 with fail
  generalize w.alloc _ = v at *
  generalize w.heap.size = ob at *
  obtain ⟨g, cap, hr, hb, hgc, hgl, c1, cv, fv⟩ := H.out.at hi
  obtain ⟨c0, f0⟩ := H.out.cell0
  have o1 : v.cell? ⟨ob, 1, none⟩ = some (.int .i64 i) := O.out.cell 1
  have hi' : (i : Int) < (n : Int) := by omega
  have HR := Lib.hid hr
  clear hr
  have h0 : (0 : Int) ≤ (i : Int) := by omega
  go_region
  go_wp2
  first | go_end0 | refine bodyPost_ret (results_none rfl _ _ _) rfl ?_
  exact ⟨rfl, (H.out.set hi HR.out _).1, Chg.then (Chg.none G.out) (H.out.set hi HR.out _).2.drew⟩

theorem set_any (base : Nat) (w : World) (c : Nat) (s : Int) (n : Nat) (f : Nat → Int) (r : Option Nat) (k i a : Int) (h : Crs base w c s n f r) :
    Calls Try.prog 77 #[.pointer (some ⟨c, 0, none⟩), .agg #[.int .i64 k, .int .i64 i, .int .i64 a]] w fun e w' => e = .returned (.tuple #[]) ∧ Hid (Crs base w' c (a) n (f) r) ∧ Hid (Chg c r r w w') := by
  have H := Lib.hid (h.grown (World.grownBy_alloc w (.cells #[.int .i64 k, .int .i64 i, .int .i64 a] 102) none))
  have G := Lib.hid (World.grownBy_alloc w (.cells #[.int .i64 k, .int .i64 i, .int .i64 a] 102) none)
  have O := Lib.hid (Blk.made w 102 #[.int .i64 k, .int .i64 i, .int .i64 a])
  clear h
  go_enter Try.func77, Try.ntmps77
  go_upto_region 1 with fail
  generalize w.alloc _ = v at *
  generalize w.heap.size = ob at *
  obtain ⟨c0, f0⟩ := H.out.cell0
  have o1 : v.cell? ⟨ob, 2, none⟩ = some (.int .i64 a) := O.out.cell 2
  go_wp2
  first | go_end0 | refine bodyPost_ret (results_none rfl _ _ _) rfl ?_
  exact ⟨rfl, (H.out.sum _).1, Chg.then (Chg.none G.out) (H.out.sum _).2⟩

theorem add_any (base : Nat) (w : World) (c : Nat) (s : Int) (n : Nat) (f : Nat → Int) (r : Option Nat) (k i a : Int) (h : Crs base w c s n f r) :
    Calls Try.prog 78 #[.pointer (some ⟨c, 0, none⟩), .agg #[.int .i64 k, .int .i64 i, .int .i64 a]] w fun e w' => e = .returned (.tuple #[]) ∧ Hid (Crs base w' c (wrap64 (s + a)) n (f) r) ∧ Hid (Chg c r r w w') := by
  have H := Lib.hid (h.grown (World.grownBy_alloc w (.cells #[.int .i64 k, .int .i64 i, .int .i64 a] 102) none))
  have G := Lib.hid (World.grownBy_alloc w (.cells #[.int .i64 k, .int .i64 i, .int .i64 a] 102) none)
  have O := Lib.hid (Blk.made w 102 #[.int .i64 k, .int .i64 i, .int .i64 a])
  clear h
  go_enter Try.func78, Try.ntmps78
  go_upto_region 1 with fail
  generalize w.alloc _ = v at *
  generalize w.heap.size = ob at *
  obtain ⟨c0, f0⟩ := H.out.cell0
  have o1 : v.cell? ⟨ob, 2, none⟩ = some (.int .i64 a) := O.out.cell 2
  go_region
  go_wp2
  first | go_end0 | refine bodyPost_ret (results_none rfl _ _ _) rfl ?_
  exact ⟨rfl, (H.out.sum _).1, Chg.then (Chg.none G.out) (H.out.sum _).2.drew⟩

theorem release_any (base : Nat) (w : World) (c : Nat) (s : Int) (n : Nat) (f : Nat → Int) (r : Option Nat) (k i a : Int) (h : Crs base w c s n f r) :
    Calls Try.prog 64 #[.pointer (some ⟨c, 0, none⟩), .agg #[.int .i64 k, .int .i64 i, .int .i64 a]] w fun e w' => e = .returned (.tuple #[]) ∧ Hid (Crs base w' c (s) n (f) r) ∧ Hid (Chg c r r w w') := by
  have H := Lib.hid (h.grown (World.grownBy_alloc w (.cells #[.int .i64 k, .int .i64 i, .int .i64 a] 102) none))
  have G := Lib.hid (World.grownBy_alloc w (.cells #[.int .i64 k, .int .i64 i, .int .i64 a] 102) none)
  clear h
  go_enter Try.func64, Try.ntmps64
  go_wp2
  first | go_end0 | refine bodyPost_ret (results_none rfl _ _ _) rfl ?_
  exact ⟨rfl, H.out, Chg.none G.out⟩
end Go.Proofs.Ytdohepenmejcaaa.lg
