/- The contracts of the document's own cells (quarrelref04): records in a list, of each object the number of its locator, of descriptors their statuses. -/
import Derived.Test.YticlmcoegcfanaaArenaR
import Derived.Test.YticlmcoegcfanaaMap
import Derived.RegionTactic
import Derived.Deep.RegionHeld3
namespace Go.Proofs.Yticlmcoegcfanaa.rf
open Go Go.RowKit Go.Proofs.Yticlmcoegcfanaa.base Go.Proofs.Yticlmcoegcfanaa.ar
set_option linter.unusedVariables false

/-- A list of numbers, as a row of cells. -/
def ints (l : List Int) : List Value := l.map fun x => .int .i64 x
theorem ints_length (l : List Int) : (ints l).length = l.length := by simp [ints]
theorem ints_snoc (l : List Int) (x : Int) : ints (l ++ [x]) = ints l ++ [.int .i64 x] := by simp [ints]
theorem ints_get (l : List Int) (j : Nat) (x : Int) (h : l[j]? = some x) : (ints l)[j]? = some (.int .i64 x) := by simp [ints, h]

/-- The statuses, as a map has them. -/
def stv (st : Int → Option Int) : Int → Option Value := fun j => (st j).map fun s => .int .i64 s

/-- Block vb is the document's cells: N is the room, rs the records, at_ the objects' locators, st (a map in block sb, of m entries) the statuses; all of it lies in the blocks of F. -/
def RefC (base : Nat) (w : World) (vb sb : Nat) (N : Int) (rs : List Rc) (at_ : List Int) (m : Nat) (st : Int → Option Int) (F : Nat → Prop) : Prop :=
  ∃ (av : Value) (r1 : Option Nat), Fld 37 45 9 base w vb [.int .i64 N] [av, .map (some sb)] rs.length (recs rs) r1 ∧ w.ownsRow base 3 1 av at_.length (ints at_) ∧ av.ownBlock ≠ some vb ∧ MapF Try.prog 3 w sb m (stv st) ∧ base ≤ sb ∧ F = fun k => k = vb ∨ k = sb ∨ some k = r1 ∨ some k = av.ownBlock

section
variable {base : Nat} {w w' : World} {vb sb : Nat} {N : Int} {rs : List Rc} {at_ : List Int} {m : Nat} {st : Int → Option Int} {F : Nat → Prop}
theorem RefC.foot (h : RefC base w vb sb N rs at_ m st F) : ∀ k, F k → base ≤ k ∧ k < w.heap.size := by
  obtain ⟨av, r1, hf, ha, hn, hm, hb, rfl⟩ := h
  intro k hk
  rcases hk with rfl | rfl | hk | hk
  · exact ⟨hf.base_le, hf.lt⟩
  · exact ⟨hb, hm.lt⟩
  · exact hf.row_lt k hk.symm
  · exact ha.lt k hk.symm
theorem RefC.keep (h : RefC base w vb sb N rs at_ m st F) (hk : ∀ k, F k → w'.heap[k]? = w.heap[k]?) : RefC base w' vb sb N rs at_ m st F := by
  obtain ⟨av, r1, hf, ha, hn, hm, hb, rfl⟩ := h
  exact ⟨av, r1, hf.keep (hk _ (.inl rfl)) (fun k e => hk k (.inr (.inr (.inl e.symm)))), ownsRow_keep ha (fun k e => hk k (.inr (.inr (.inr e.symm)))), hn, hm.keep (hk _ (.inr (.inl rfl))), hb, rfl⟩
theorem RefC.grown (h : RefC base w vb sb N rs at_ m st F) (g : w.grownBy w' none) : RefC base w' vb sb N rs at_ m st F := h.keep fun k hk => g.block k (h.foot k hk).2 (by simp)
theorem RefC.only {S : Nat → Prop} (h : RefC base w vb sb N rs at_ m st F) (g : Only S w w') (hs : Sep F S) : RefC base w' vb sb N rs at_ m st F := h.keep fun k hk => g.block k (h.foot k hk).2 (hs k hk)

/-- The list's row is neither the map, nor the other row. -/
theorem RefC.apart {av : Value} {r1 : Option Nat} (hf : Fld 37 45 9 base w vb [.int .i64 N] [av, .map (some sb)] rs.length (recs rs) r1) (ha : w.ownsRow base 3 1 av at_.length (ints at_)) (hm : MapF Try.prog 3 w sb m (stv st)) :
    vb ≠ sb ∧ r1 ≠ some sb ∧ av.ownBlock ≠ some sb ∧ (r1 = none ∨ r1 ≠ av.ownBlock) := by
  obtain ⟨ao, cap, hb, ho, hr⟩ := hf.open
  refine ⟨fun e => ?_, fun e => ?_, fun e => ?_, ?_⟩
  · unfold Blk at hb
    rw [e] at hb
    exact hm.not_cells hb
  · obtain ⟨cs, h1⟩ := ownsRow_type ho (hr.trans e)
    exact hm.not_cells h1
  · obtain ⟨cs, h1⟩ := ownsRow_type ha e
    exact hm.not_cells h1
  · cases hr1 : r1 with
    | none => exact .inl rfl
    | some k =>
      refine .inr fun e => ?_
      obtain ⟨cs, h1⟩ := ownsRow_type ho (hr.trans hr1)
      obtain ⟨cs2, h2⟩ := ownsRow_type ha e.symm
      rw [h1] at h2
      simp at h2
theorem RefC.put {av : Value} {r1 r' : Option Nat} {rs' : List Rc} (hf : Fld 37 45 9 base w vb [.int .i64 N] [av, .map (some sb)] rs.length (recs rs) r1) (ha : w.ownsRow base 3 1 av at_.length (ints at_)) (hn : av.ownBlock ≠ some vb) (hm : MapF Try.prog 3 w sb m (stv st)) (hb : base ≤ sb)
    (hf' : Fld 37 45 9 base w' vb [.int .i64 N] [av, .map (some sb)] rs'.length (recs rs') r') (c : Chg vb r1 r' w w') : ∃ F', RefC base w' vb sb N rs' at_ m st F' ∧ Step (fun k => k = vb ∨ k = sb ∨ some k = r1 ∨ some k = av.ownBlock) F' w w' ∧ w'.cell? ⟨vb, 2, none⟩ = w.cell? ⟨vb, 2, none⟩ := by
  obtain ⟨p1, p2, p3, p4⟩ := RefC.apart hf ha hm
  refine ⟨_, ⟨av, r', hf', ownsRow_keep ha (fun k e => c.block k (ha.lt k e).2 (fun e2 => hn (by rw [e, e2])) (fun e2 => ?_)), hn, hm.keep (c.block sb hm.lt (fun e => p1 e.symm) (fun e => p2 e.symm)), hb, rfl⟩, ⟨⟨c.os, c.tape, c.output, c.size, fun k hk hno => c.block k hk (fun e => hno (.inl e)) (fun e => hno (.inr (.inr (.inl e))))⟩, fun k hk => ?_⟩, ?_⟩
  · rcases p4 with h | h
    · rw [h] at e2; cases e2
    · exact h (by rw [← e2, e])
  · rcases hk with h | h | h | h
    · exact .inl (.inl h)
    · exact .inl (.inr (.inl h))
    · rcases c.row with h1 | ⟨j, h1, hj⟩
      · exact .inl (.inr (.inr (.inl (by rw [h, h1]))))
      · rw [h1] at h
        cases h
        exact .inr hj
    · exact .inl (.inr (.inr (.inr h)))
  · obtain ⟨_, _, b1, _, _⟩ := hf.open
    obtain ⟨_, _, b2, _, _⟩ := hf'.open
    rw [b1.cell, b2.cell]
    rfl
end

theorem ref_put_full (base vb sb : Nat) (N : Int) (rs : List Rc) (at_ : List Int) (m : Nat) (st : Int → Option Int) (F : Nat → Prop) (w : World) (h : RefC base w vb sb N rs at_ m st F) (x : Rc) (hl : N ≤ rs.length) (hN : rs.length ≤ 4096) :
    Calls Try.prog 14 #[.pointer (some ⟨vb, 0, none⟩), .agg #[.int .i64 x.kind, .int .i64 x.val, .int .i64 x.owner, .int .i64 x.old, .int .i64 x.new, .int .i64 x.thread, .int .i64 x.txn, .int .i64 x.attempt, .int .i64 x.stamp]] w fun e w' => e = .returned (.int .i64 (-1)) ∧ Hid (w.grownBy w' none) := by
  obtain ⟨av, r1, hf, ha, hn, hm, hb, rfl⟩ := h
  obtain ⟨ao, cap, hbk, ho, hr⟩ := hf.open
  have c0 := hbk.cell 0
  have c1 := hbk.cell 1
  have hbl := hbk.lt
  have hd : N ≤ (rs.length : Int) := by omega
  clear hf ha hn hm hb ho hr hbk
  go_enter Try.func14, Try.ntmps14
  go_wp2
  go_quiet (fail)
  go_wp2
  go_ret
  exact ⟨rfl, gb_drewN (gb_alloc (gb_refl _ _) _) _⟩

set_option maxRecDepth 100000 in
set_option maxHeartbeats 2000000 in
theorem ref_put (base vb sb : Nat) (N : Int) (rs : List Rc) (at_ : List Int) (m : Nat) (st : Int → Option Int) (F : Nat → Prop) (w : World) (h : RefC base w vb sb N rs at_ m st F) (x : Rc) (hl : (rs.length : Int) < N) (hN : N ≤ 4096) (hbs : base ≤ w.heap.size) :
    Calls Try.prog 14 #[.pointer (some ⟨vb, 0, none⟩), .agg #[.int .i64 x.kind, .int .i64 x.val, .int .i64 x.owner, .int .i64 x.old, .int .i64 x.new, .int .i64 x.thread, .int .i64 x.txn, .int .i64 x.attempt, .int .i64 x.stamp]] w fun e w' => ∃ F', e = .returned (.int .i64 rs.length) ∧ Hid (RefC base w' vb sb N (rs ++ [x]) at_ m st F') ∧ Hid (Step F F' w w') ∧ Hid (w'.cell? ⟨vb, 2, none⟩ = w.cell? ⟨vb, 2, none⟩) := by
  obtain ⟨av, r1, hf, ha, hn, hm, hb, rfl⟩ := h
  have H := Lib.hid hf
  have HA := Lib.hid ha
  have HM := Lib.hid hm
  have Hn := Lib.hid hn
  have Hb := Lib.hid hb
  have hbs1 := Lib.hid hbs
  have hlt : ¬ N ≤ (rs.length : Int) := by omega
  have hn4 : rs.length ≤ 4096 := by omega
  obtain ⟨i0, hi0, hz00, hz10, hz20⟩ := info_parts infoR
  have hi := Lib.hid hi0
  have hz0 := Lib.hid hz00
  have hz1 := Lib.hid hz10
  have hz2 := Lib.hid hz20
  obtain ⟨ao, cap, hbk0, ho0, hr0⟩ := hf.open
  have e0 := hbk0.cell 0
  have e1 := hbk0.cell 1
  have ebl := hbk0.lt
  clear hf ha hn hm hb hbs hi0 hz00 hz10 hz20 ho0 hr0 hbk0 hl
  go_enter Try.func14, Try.ntmps14
  go_wp2
  go_quiet (fail)
  have X' : Blk 45 ((w.alloc (.cells #[.int .i64 x.kind, .int .i64 x.val, .int .i64 x.owner, .int .i64 x.old, .int .i64 x.new, .int .i64 x.thread, .int .i64 x.txn, .int .i64 x.attempt, .int .i64 x.stamp] 45)).drewN nq) w.heap.size #[.int .i64 x.kind, .int .i64 x.val, .int .i64 x.owner, .int .i64 x.old, .int .i64 x.new, .int .i64 x.thread, .int .i64 x.txn, .int .i64 x.attempt, .int .i64 x.stamp] := Blk.made w _ _
  have H1 : Hid (Fld 37 45 9 base ((w.alloc (.cells #[.int .i64 x.kind, .int .i64 x.val, .int .i64 x.owner, .int .i64 x.old, .int .i64 x.new, .int .i64 x.thread, .int .i64 x.txn, .int .i64 x.attempt, .int .i64 x.stamp] 45)).drewN nq) vb [.int .i64 N] [av, .map (some sb)] rs.length (recs rs) r1) := (H.out.alloc _).drewN nq
  have G1 : Hid (w.grownBy ((w.alloc (.cells #[.int .i64 x.kind, .int .i64 x.val, .int .i64 x.owner, .int .i64 x.old, .int .i64 x.new, .int .i64 x.thread, .int .i64 x.txn, .int .i64 x.attempt, .int .i64 x.stamp] 45)).drewN nq) none) := gb_drewN (gb_alloc (gb_refl _ _) _) _
  generalize ((w.alloc (.cells #[.int .i64 x.kind, .int .i64 x.val, .int .i64 x.owner, .int .i64 x.old, .int .i64 x.new, .int .i64 x.thread, .int .i64 x.txn, .int .i64 x.attempt, .int .i64 x.stamp] 45)).drewN nq) = u1 at *
  have hp0 : w.heap.size ≤ u1.heap.size := G1.out.size
  have hpb := hbs1.out
  clear e0 e1 ebl
  obtain ⟨ao1, cap1, hbk1, ho1, hr1⟩ := H1.out.open
  have ho := Lib.hid ho1
  have hr := Lib.hid hr1
  have c0 := hbk1.cell 1
  have f0 := hbk1.free 1
  have x0 := X'.cell 0
  have x1 := X'.cell 1
  have x2 := X'.cell 2
  have x3 := X'.cell 3
  have x4 := X'.cell 4
  have x5 := X'.cell 5
  have x6 := X'.cell 6
  have x7 := X'.cell 7
  have x8 := X'.cell 8
  have hbl := hbk1.lt
  have hpl := X'.lt
  have hbu : Hid (base ≤ u1.heap.size) := Nat.le_trans hbs1.out hp0
  have hc : x.cells = [.int .i64 x.kind, .int .i64 x.val, .int .i64 x.owner, .int .i64 x.old, .int .i64 x.new, .int .i64 x.thread, .int .i64 x.txn, .int .i64 x.attempt, .int .i64 x.stamp] := rfl
  have fin : ∀ {w1 : World} {r : Option Nat}, Fld 37 45 9 base w1 vb [.int .i64 N] [av, .map (some sb)] (rs.length + 1) (recs rs ++ x.cells) r → Fld 37 45 9 base w1 vb [.int .i64 N] [av, .map (some sb)] (rs ++ [x]).length (recs (rs ++ [x])) r := by
    intro w1 r h1
    rw [recs_snoc, List.length_append]
    exact h1
  clear hpb hp0 ho1 hr1 hbk1
  go_wp2_with fail
  go_region_law (refine step_append_at rfl (.tmp 19) (.tmp 21) 34 rfl base 45 i0 (.agg #[.int .i64 0, .int .i64 0, .int .i64 0, .int .i64 0, .int .i64 0, .int .i64 0, .int .i64 0, .int .i64 0, .int .i64 0]) 9 72 Try.underlying34 hi.out hz0.out hz1.out hz2.out rfl (by decide) (.slice ao1 rs.length cap1) rs.length (recs rs) (by simp [Act.eval]) ((ho.out.alloc _).drew) ⟨u1.heap.size, 0, none⟩ 1 1 [.int .i64 x.kind, .int .i64 x.val, .int .i64 x.owner, .int .i64 x.old, .int .i64 x.new, .int .i64 x.thread, .int .i64 x.txn, .int .i64 x.attempt, .int .i64 x.stamp] (by simp [Act.eval]) rfl (new_cells u1.drew _ _) (by intro u hu; simp at hu; rcases hu with rfl | rfl | rfl | rfl | rfl | rfl | rfl | rfl | rfl <;> rfl) (by unfold maxLen; omega) (by omega) (by have := hbu.out; simp; omega) (by decide) ?_; intro g' c' w1 ho1 hg1 hv1; have hg2 := Lib.hid (show World.grownBy _ w1 r1 from hr.out ▸ hg1); have ho2 := Lib.hid ho1; have hv2 := Lib.hid hv1; obtain ⟨c2, f2⟩ := H1.out.drew.mid c0 hg2.out; clear ho1 hg1 hv1)
  all_goals
    have hp := ((H1.out.alloc (.cells #[.int .i64 x.kind, .int .i64 x.val, .int .i64 x.owner, .int .i64 x.old, .int .i64 x.new, .int .i64 x.thread, .int .i64 x.txn, .int .i64 x.attempt, .int .i64 x.stamp] 45)).drew).put ho2.out hg2.out (by rw [← hr.out]; exact hv2.out)
    have hp2 := Lib.hid (hp.2.after (gb_trans G1.out (gb_drew (gb_alloc (gb_refl _ _) _))))
    have hp1 := Lib.hid (fin (by rw [hc]; exact hp.1))
    have hcell := hp.1.open
    obtain ⟨ao3, cap3, hb3, _, _⟩ := hcell
    have d1 := hb3.cell 1
    clear hp hb3
    go_wp2
    go_ret
    obtain ⟨F', q1, q2, q3⟩ := RefC.put H.out HA.out Hn.out HM.out Hb.out hp1.out hp2.out
    exact ⟨F', rfl, q1, q2, q3⟩

/-- What the walk is told of its cells. -/
theorem RefC.cells {base : Nat} {w : World} {vb sb : Nat} {N : Int} {rs : List Rc} {at_ : List Int} {m : Nat} {st : Int → Option Int} {F : Nat → Prop} (h : RefC base w vb sb N rs at_ m st F) :
    ∃ a1 k1 a2 k2, vb < w.heap.size ∧ w.cell? ⟨vb, 0, none⟩ = some (.int .i64 N) ∧ w.cell? ⟨vb, 1, none⟩ = some (.slice a1 rs.length k1) ∧ w.cell? ⟨vb, 2, none⟩ = some (.slice a2 at_.length k2) ∧ w.cell? ⟨vb, 3, none⟩ = some (.map (some sb)) ∧
      (∀ j x, rs[j]? = some x → ∃ g, a1 = some ⟨g, 0, none⟩ ∧ ∀ i, i < 9 → w.cell? ⟨g, j * 9 + i, none⟩ = x.cells[i]?) ∧ (∀ j p, at_[j]? = some p → ∃ g, a2 = some ⟨g, 0, none⟩ ∧ w.cell? ⟨g, j, none⟩ = some (.int .i64 p)) := by
  obtain ⟨av, r1, hf, ha, hn, hm, hb, rfl⟩ := h
  obtain ⟨a2, k2, rfl⟩ : ∃ a2 k2, av = .slice a2 at_.length k2 := by
    rcases ha.2 with ⟨rfl, h0⟩ | ⟨g, cap, cur, rfl, _⟩
    · exact ⟨none, 0, by rw [h0]⟩
    · exact ⟨_, _, rfl⟩
  obtain ⟨a1, k1, hbk, ho, hr⟩ := hf.open
  refine ⟨a1, k1, a2, k2, hbk.lt, hbk.cell 0, hbk.cell 1, hbk.cell 2, hbk.cell 3, fun j x hx => ?_, fun j p hp => ?_⟩
  · have hj : j < rs.length := (List.getElem?_eq_some_iff.1 hx).1
    rcases ho.2 with ⟨e, h0⟩ | ⟨g, cap, cur, e, _⟩
    · omega
    · injection e with e1 e2 e3
      subst e1
      refine ⟨g, rfl, fun i hi => ?_⟩
      rw [← recs_get rs j i x hx hi]
      exact ho.cellAt _ (by omega)
  · have hj : j < at_.length := (List.getElem?_eq_some_iff.1 hp).1
    rcases ha.2 with ⟨e, h0⟩ | ⟨g, cap, cur, e, _⟩
    · omega
    · injection e with e1 e2 e3
      subst e1
      refine ⟨g, rfl, ?_⟩
      rw [← ints_get at_ j p hp]
      exact ha.cellAt _ (by omega)

theorem ref_is_out (base vb sb : Nat) (N : Int) (rs : List Rc) (at_ : List Int) (m : Nat) (st : Int → Option Int) (F : Nat → Prop) (w : World) (h : RefC base w vb sb N rs at_ m st F) (k q : Int) (hk : k < 0 ∨ (rs.length : Int) ≤ k) : Calls Try.prog 16 #[.pointer (some ⟨vb, 0, none⟩), .int .i64 k, .int .i64 q] w fun e w' => e = .returned (.bool false) ∧ w = w' := by
  obtain ⟨a1, k1, a2, k2, hl, c0, c1, c2, c3, _, _⟩ := h.cells
  clear h
  by_cases h0 : 0 ≤ k
  · have h1 : (rs.length : Int) ≤ k := by omega
    clear hk
    go_enter Try.func16, Try.ntmps16
    go_wp2
    go_ret
    exact ⟨rfl, rfl⟩
  · have h1 : k < 0 := by omega
    clear hk h0
    go_enter Try.func16, Try.ntmps16
    go_wp2
    go_ret
    exact ⟨rfl, rfl⟩

theorem ref_is_in (base vb sb : Nat) (N : Int) (rs : List Rc) (at_ : List Int) (m : Nat) (st : Int → Option Int) (F : Nat → Prop) (w : World) (h : RefC base w vb sb N rs at_ m st F) (j : Nat) (q : Int) (x : Rc) (hx : rs[j]? = some x) (hm : rs.length ≤ 4096) : Calls Try.prog 16 #[.pointer (some ⟨vb, 0, none⟩), .int .i64 j, .int .i64 q] w fun e w' => e = .returned (.bool (x.kind == q)) ∧ w = w' := by
  obtain ⟨a1, k1, a2, k2, hl, c0, c1, c2, c3, hL, _⟩ := h.cells
  obtain ⟨g, rfl, hc⟩ := hL j x hx
  have d0 : w.cell? ⟨g, j * 9, none⟩ = some (.int .i64 x.kind) := hc 0 (by omega)
  have hj : j < rs.length := (List.getElem?_eq_some_iff.1 hx).1
  have hj' : (j : Int) < (rs.length : Int) := by omega
  clear h hL hc hx
  go_enter Try.func16, Try.ntmps16
  go_wp2
  go_ret
  exact ⟨rfl, rfl⟩

/-- What a locator resolves to. -/
def rsv (x : Rc) (s : Int) : Int := if x.kind = 2 then (if x.owner = -1 ∨ s = 2 then x.new else x.old) else 0

theorem ref_resolve (x : Rc) (s : Int) (w : World) : Calls Try.prog 25 #[.agg #[.int .i64 x.kind, .int .i64 x.val, .int .i64 x.owner, .int .i64 x.old, .int .i64 x.new, .int .i64 x.thread, .int .i64 x.txn, .int .i64 x.attempt, .int .i64 x.stamp], .int .i64 s] w fun e w' => e = .returned (.int .i64 (rsv x s)) ∧ Hid (w.grownBy w' none) := by
  by_cases h1 : x.kind = 2
  · have e1 : (x.kind != 2) = false := by simp [h1]
    by_cases h2 : x.owner = -1
    · have e2 : (x.owner == -1) = true := by simp [h2]
      have hr : rsv x s = x.new := by simp [rsv, h1, h2]
      rw [hr]
      clear h1 h2 hr
      go_enter Try.func25, Try.ntmps25
      go_wp2
      go_ret
      exact ⟨rfl, gb_alloc (gb_refl _ _) _⟩
    · have e2 : (x.owner == -1) = false := by simp [h2]
      by_cases h3 : s = 2
      · have hr : rsv x s = x.new := by simp [rsv, h1, h3]
        rw [hr]
        subst h3
        clear h1 h2 hr
        go_enter Try.func25, Try.ntmps25
        go_wp2
        go_ret
        exact ⟨rfl, gb_alloc (gb_refl _ _) _⟩
      · have e3 : (s == 2) = false := by simp [h3]
        have hr : rsv x s = x.old := by simp [rsv, h1, h2, h3]
        rw [hr]
        clear h1 h2 h3 hr
        go_enter Try.func25, Try.ntmps25
        go_wp2
        go_ret
        exact ⟨rfl, gb_alloc (gb_refl _ _) _⟩
  · have e1 : (x.kind != 2) = true := by simp [h1]
    have hr : rsv x s = 0 := by simp [rsv, h1]
    rw [hr]
    clear h1 hr
    go_enter Try.func25, Try.ntmps25
    go_wp2
    go_ret
    exact ⟨rfl, gb_alloc (gb_refl _ _) _⟩

/-- A descriptor's status, as the document has it: 0 of none. -/
def stat (st : Int → Option Int) (j : Int) : Int := (st j).getD 0

theorem zeroI (w : World) : (zeroValue 3).run Try.prog w = .ok (.int .i64 0) w := by kernel_rfl

theorem stat_look {w : World} {sb m : Nat} {st : Int → Option Int} (h : MapF Try.prog 3 w sb m (stv st)) (j : Int) (hj : (Lit.int .i64 j).wf = true) :
    (Instr.lookup 33 (.map (some sb)) (.int .i64 j) false).run Try.prog w = .ok (.int .i64 (stat st j)) w := by
  rw [h.get Try.underlying3 Try.underlying33 (zeroI _) hj]
  unfold stv stat
  cases st j <;> rfl

set_option maxRecDepth 100000 in
set_option maxHeartbeats 2000000 in
theorem ref_current (base vb sb : Nat) (N : Int) (rs : List Rc) (at_ : List Int) (m : Nat) (st : Int → Option Int) (F : Nat → Prop) (w : World) (h : RefC base w vb sb N rs at_ m st F) (j q : Nat) (x : Rc) (hj : at_[j]? = some (q : Int)) (hx : rs[q]? = some x) (hm : rs.length ≤ 4096) (hm2 : at_.length ≤ 4096) (hw : (Lit.int .i64 x.owner).wf = true) :
    Calls Try.prog 40 #[.pointer (some ⟨vb, 0, none⟩), .int .i64 j] w fun e w' => e = .returned (.int .i64 (rsv x (stat st x.owner))) ∧ Hid (w.grownBy w' none) := by
  obtain ⟨a1, k1, a2, k2, hl, c0, c1, c2, c3, hL, hA⟩ := h.cells
  obtain ⟨g, rfl, hc⟩ := hL q x hx
  obtain ⟨g2, rfl, hd⟩ := hA j q hj
  have d0 : w.cell? ⟨g, q * 9, none⟩ = some (.int .i64 x.kind) := hc 0 (by omega)
  have d1 : w.cell? ⟨g, q * 9 + 1, none⟩ = some (.int .i64 x.val) := hc 1 (by omega)
  have d2 : w.cell? ⟨g, q * 9 + 2, none⟩ = some (.int .i64 x.owner) := hc 2 (by omega)
  have d3 : w.cell? ⟨g, q * 9 + 3, none⟩ = some (.int .i64 x.old) := hc 3 (by omega)
  have d4 : w.cell? ⟨g, q * 9 + 4, none⟩ = some (.int .i64 x.new) := hc 4 (by omega)
  have d5 : w.cell? ⟨g, q * 9 + 5, none⟩ = some (.int .i64 x.thread) := hc 5 (by omega)
  have d6 : w.cell? ⟨g, q * 9 + 6, none⟩ = some (.int .i64 x.txn) := hc 6 (by omega)
  have d7 : w.cell? ⟨g, q * 9 + 7, none⟩ = some (.int .i64 x.attempt) := hc 7 (by omega)
  have d8 : w.cell? ⟨g, q * 9 + 8, none⟩ = some (.int .i64 x.stamp) := hc 8 (by omega)
  have hM : Hid (MapF Try.prog 3 w sb m (stv st)) := by obtain ⟨av, r1, _, _, _, hm, _, _⟩ := h; exact hm
  have hq' : (q : Int) < (rs.length : Int) := by have := (List.getElem?_eq_some_iff.1 hx).1; omega
  have hj' : (j : Int) < (at_.length : Int) := by have := (List.getElem?_eq_some_iff.1 hj).1; omega
  have lg := World.block_lt_of_cell? _ _ d0
  have lg2 := World.block_lt_of_cell? _ _ hd
  clear h hL hA hc hx hj c0
  go_enter Try.func40, Try.ntmps40
  go_wp2_with fail
  go_region_held3 (fun w' => w'.cell? ⟨vb, 1, none⟩ = some (.slice (some ⟨g, 0, none⟩) rs.length k1) ∧ w'.cell? ⟨vb, 2, none⟩ = some (.slice (some ⟨g2, 0, none⟩) at_.length k2) ∧ w'.cell? ⟨g2, j, none⟩ = some (.int .i64 q) ∧ w'.cell? ⟨g, q * 9, none⟩ = some (.int .i64 x.kind) ∧ w'.cell? ⟨g, q * 9 + 1, none⟩ = some (.int .i64 x.val) ∧ w'.cell? ⟨g, q * 9 + 2, none⟩ = some (.int .i64 x.owner) ∧ w'.cell? ⟨g, q * 9 + 3, none⟩ = some (.int .i64 x.old) ∧ w'.cell? ⟨g, q * 9 + 4, none⟩ = some (.int .i64 x.new) ∧ w'.cell? ⟨g, q * 9 + 5, none⟩ = some (.int .i64 x.thread) ∧ w'.cell? ⟨g, q * 9 + 6, none⟩ = some (.int .i64 x.txn) ∧ w'.cell? ⟨g, q * 9 + 7, none⟩ = some (.int .i64 x.attempt) ∧ w'.cell? ⟨g, q * 9 + 8, none⟩ = some (.int .i64 x.stamp)) (go_keep) (fail)
  have X' : Blk 45 ((w.alloc (.cells #[.int .i64 x.kind, .int .i64 x.val, .int .i64 x.owner, .int .i64 x.old, .int .i64 x.new, .int .i64 x.thread, .int .i64 x.txn, .int .i64 x.attempt, .int .i64 x.stamp] 45)).drew) w.heap.size #[.int .i64 x.kind, .int .i64 x.val, .int .i64 x.owner, .int .i64 x.old, .int .i64 x.new, .int .i64 x.thread, .int .i64 x.txn, .int .i64 x.attempt, .int .i64 x.stamp] := Blk.made w _ _
  have C3' : ((w.alloc (.cells #[.int .i64 x.kind, .int .i64 x.val, .int .i64 x.owner, .int .i64 x.old, .int .i64 x.new, .int .i64 x.thread, .int .i64 x.txn, .int .i64 x.attempt, .int .i64 x.stamp] 45)).drew).cell? ⟨vb, 3, none⟩ = some (.map (some sb)) := (gb_drew (gb_alloc (gb_refl w none) _)).cell c3 (by simp)
  have HL' := stat_look (MapF.keep (w' := ((w.alloc (.cells #[.int .i64 x.kind, .int .i64 x.val, .int .i64 x.owner, .int .i64 x.old, .int .i64 x.new, .int .i64 x.thread, .int .i64 x.txn, .int .i64 x.attempt, .int .i64 x.stamp] 45)).drew).drew) hM.out ((gb_drew (gb_drew (gb_alloc (gb_refl w none) (.cells #[.int .i64 x.kind, .int .i64 x.val, .int .i64 x.owner, .int .i64 x.old, .int .i64 x.new, .int .i64 x.thread, .int .i64 x.txn, .int .i64 x.attempt, .int .i64 x.stamp] 45)))).block _ hM.out.lt (by simp))) x.owner hw
  have G1 : Hid (w.grownBy ((w.alloc (.cells #[.int .i64 x.kind, .int .i64 x.val, .int .i64 x.owner, .int .i64 x.old, .int .i64 x.new, .int .i64 x.thread, .int .i64 x.txn, .int .i64 x.attempt, .int .i64 x.stamp] 45)).drew) none) := gb_drew (gb_alloc (gb_refl _ _) _)
  clear c1 c2 c3 hd d0 d1 d2 d3 d4 d5 d6 d7 d8 hl lg lg2 hM
  generalize ((w.alloc (.cells #[.int .i64 x.kind, .int .i64 x.val, .int .i64 x.owner, .int .i64 x.old, .int .i64 x.new, .int .i64 x.thread, .int .i64 x.txn, .int .i64 x.attempt, .int .i64 x.stamp] 45)).drew) = u1 at *
  generalize w.heap.size = b0 at *
  have x0 := X'.cell 0
  have x1 := X'.cell 1
  have x2 := X'.cell 2
  have x3 := X'.cell 3
  have x4 := X'.cell 4
  have x5 := X'.cell 5
  have x6 := X'.cell 6
  have x7 := X'.cell 7
  have x8 := X'.cell 8
  clear X'
  generalize hsv : stat st x.owner = sv at *
  go_wp2_with fail
  go_region_held3 (fun w' => w'.cell? ⟨vb, 3, none⟩ = some (.map (some sb)) ∧ w'.cell? ⟨b0, 0, none⟩ = some (.int .i64 x.kind) ∧ w'.cell? ⟨b0, 1, none⟩ = some (.int .i64 x.val) ∧ w'.cell? ⟨b0, 2, none⟩ = some (.int .i64 x.owner) ∧ w'.cell? ⟨b0, 3, none⟩ = some (.int .i64 x.old) ∧ w'.cell? ⟨b0, 4, none⟩ = some (.int .i64 x.new) ∧ w'.cell? ⟨b0, 5, none⟩ = some (.int .i64 x.thread) ∧ w'.cell? ⟨b0, 6, none⟩ = some (.int .i64 x.txn) ∧ w'.cell? ⟨b0, 7, none⟩ = some (.int .i64 x.attempt) ∧ w'.cell? ⟨b0, 8, none⟩ = some (.int .i64 x.stamp)) (go_keep) ((go_at_call 25; refine (ref_resolve x sv _).mono ?_; rintro e u2 ⟨rfl, g2⟩; have C4 := g2.out.cell (a := ⟨vb, 3, none⟩) C3' (by simp); have y0 := g2.out.cell (a := ⟨b0, 0, none⟩) (v := .int .i64 x.kind) x0 (by simp); have y1 := g2.out.cell (a := ⟨b0, 1, none⟩) (v := .int .i64 x.val) x1 (by simp); have y2 := g2.out.cell (a := ⟨b0, 2, none⟩) (v := .int .i64 x.owner) x2 (by simp); have y3 := g2.out.cell (a := ⟨b0, 3, none⟩) (v := .int .i64 x.old) x3 (by simp); have y4 := g2.out.cell (a := ⟨b0, 4, none⟩) (v := .int .i64 x.new) x4 (by simp); have y5 := g2.out.cell (a := ⟨b0, 5, none⟩) (v := .int .i64 x.thread) x5 (by simp); have y6 := g2.out.cell (a := ⟨b0, 6, none⟩) (v := .int .i64 x.txn) x6 (by simp); have y7 := g2.out.cell (a := ⟨b0, 7, none⟩) (v := .int .i64 x.attempt) x7 (by simp); have y8 := g2.out.cell (a := ⟨b0, 8, none⟩) (v := .int .i64 x.stamp) x8 (by simp)))
  go_wp2
  go_ret
  exact ⟨by rw [hsv]; rfl, gb_trans (gb_drew G1.out) g2.out⟩

/-- Each of the first k objects has a value: l tells them. -/
def Have (rs : List Rc) (at_ : List Int) (st : Int → Option Int) (k : Nat) (l : List Int) : Prop :=
  l.length = k ∧ ∀ i, i < k → ∃ (q p : Nat) (x y : Rc), at_[i]? = some (q : Int) ∧ rs[q]? = some x ∧ (Lit.int .i64 x.owner).wf = true ∧ rsv x (stat st x.owner) = (p : Int) ∧ rs[p]? = some y ∧ l[i]? = some y.val

theorem infoI : (Try.prog.info? 2).map (fun i => (i.zero, i.size, i.bytes)) = some (some (.int .i64 0), 1, 8) := by kernel_rfl

/-- At the head of a round of All. -/
def RelAll (w : World) (l : List Int) (n : Nat) (out i : Value) (wr : World) : Prop :=
  ∃ k : Nat, k ≤ n ∧ i = .int .i64 k ∧ wr.ownsRow w.heap.size 2 1 out k (ints (l.take k)) ∧ w.grownBy wr none

set_option maxRecDepth 100000 in
set_option maxHeartbeats 2000000 in
theorem ref_all (base vb sb : Nat) (N : Int) (rs : List Rc) (at_ : List Int) (m : Nat) (st : Int → Option Int) (F : Nat → Prop) (w : World) (h : RefC base w vb sb N rs at_ m st F) (l : List Int) (hv : Have rs at_ st at_.length l) (hm : rs.length ≤ 4096) (hm2 : at_.length ≤ 4096) :
    Calls Try.prog 22 #[.pointer (some ⟨vb, 0, none⟩)] w fun e w' => ∃ v, e = .returned v ∧ Hid (w'.ownsRow w.heap.size 2 1 v at_.length (ints l)) ∧ Hid (w.grownBy w' none) := by
  have H := Lib.hid h
  have V := Lib.hid hv
  clear h hv
  obtain ⟨i0, hi0, hz00, hz10, hz20⟩ := info_parts infoI
  have hi := Lib.hid hi0
  have hz0 := Lib.hid hz00
  have hz1 := Lib.hid hz10
  have hz2 := Lib.hid hz20
  clear hi0 hz00 hz10 hz20
  go_enter Try.func22, Try.ntmps22
  go_wp2_with fail
  go_loopw [3, 4] (fun out i wr => RelAll w l at_.length out i wr) (fun _ i _ => (at_.length - intOf i).toNat)
  case atStart => exact ⟨0, by omega, rfl, World.ownsRow_nil _ _ _ _, gb_refl _ _⟩
  case round =>
    obtain ⟨k, hk, rfl, ho0, g0⟩ := hrel
    have ho := Lib.hid ho0
    have g := Lib.hid g0
    obtain ⟨ao, cap, rfl⟩ : ∃ ao cap, u3 = .slice ao k cap := by
      rcases ho0.2 with ⟨rfl, h0⟩ | ⟨b, cap, cur, rfl, _⟩
      · exact ⟨none, 0, by rw [h0]⟩
      · exact ⟨_, _, rfl⟩
    clear ho0 g0
    obtain ⟨a1, k1, a2, k2, hl0, _, c1', c2', _, hL, hA⟩ := H.out.cells
    have c1 := g.out.cell c1' (by simp)
    have c2 := g.out.cell c2' (by simp)
    have hl := World.block_lt_of_cell? _ _ c1
    by_cases hlt : k < at_.length
    · obtain ⟨q, p, x, y, e1, e2, e3, e4, e5, e6⟩ := V.out.2 k hlt
      obtain ⟨gg, rfl, hc⟩ := hL p y e5
      have d1' : w.cell? ⟨gg, p * 9 + 1, none⟩ = some (.int .i64 y.val) := hc 1 (by omega)
      have lg0 := World.block_lt_of_cell? _ _ d1'
      have d1 := g.out.cell d1' (by simp)
      have hlt' : (k : Int) < (at_.length : Int) := by omega
      have hp' : (p : Int) < (rs.length : Int) := by have := (List.getElem?_eq_some_iff.1 e5).1; omega
      have lg := World.block_lt_of_cell? _ _ d1
      have E1 := Lib.hid e1
      have E2 := Lib.hid e2
      have E3 := Lib.hid e3
      have E6 := Lib.hid e6
      have E4 := Lib.hid e4
      have nv : Hid (∀ b, (Value.slice ao k cap).ownBlock = some b → b ≠ vb ∧ b ≠ gg) := fun b e => by
        have h1 : w.heap.size ≤ b := (ho.out.lt b e).1
        have h2 : gg < w.heap.size := lg0
        exact ⟨by omega, by omega⟩
      have hw0 := g.out.size
      clear hL hA hc e1 e2 e3 e4 e5 e6 c1' c2' d1' hl0 lg0
      go_wp2_with fail
      go_region_held3 (fun w' => w'.cell? ⟨vb, 1, none⟩ = some (.slice (some ⟨gg, 0, none⟩) rs.length k1) ∧ w'.cell? ⟨gg, p * 9 + 1, none⟩ = some (.int .i64 y.val)) (go_keep) (first | (go_at_call 40; refine (ref_current base vb sb N rs at_ m st F wr.drew (H.out.grown (gb_drew g.out)) k q x E1.out E2.out hm hm2 E3.out).mono ?_; rw [E4.out]; rintro e u5 ⟨rfl, g5⟩; have q1 := g5.out.cell (a := ⟨vb, 1, none⟩) c1 (by simp); have q2 := g5.out.cell (a := ⟨gg, p * 9 + 1, none⟩) d1 (by simp); have ho5 := Lib.hid (ownsRow_keep (w' := u5) ho.out (fun b e => g5.out.block b (ho.out.lt b e).2 (by simp)))) | (refine step_append_at rfl (.tmp 14) (.tmp 25) 22 rfl w.heap.size 2 i0 (.int .i64 0) 1 8 Try.underlying22 hi.out hz0.out hz1.out hz2.out rfl (by decide) (.slice ao k cap) k (ints (l.take k)) (by simp [Act.eval]) (ho5.out.alloc _) ⟨u5.heap.size, 0, none⟩ 1 1 [.int .i64 y.val] (by simp [Act.eval]) rfl (new_cells u5 _ _) (by intro u hu; simp at hu; subst hu; rfl) (by unfold maxLen; omega) (by omega) (by have := g5.out.size; simp at this ⊢; omega) (by decide) ?_; intro g' c' w1 ho1 hg1 hv1; have q3 := hg1.cell (a := ⟨vb, 1, none⟩) (gb_alloc (gb_refl u5 none) _ |>.cell q1 (by simp)) (fun e => (nv.out _ e.symm).1 rfl); have q4 := hg1.cell (a := ⟨gg, p * 9 + 1, none⟩) (gb_alloc (gb_refl u5 none) _ |>.cell q2 (by simp)) (fun e => (nv.out _ e.symm).2 rfl)))
      have ho2 := Lib.hid ho1
      have hgw : Hid (w.grownBy w1 none) := gb_overO (gb_trans (gb_trans (gb_drew g.out) g5.out) (gb_alloc (gb_refl _ _) _)) hg1 (fun b e => (ho.out.lt b e).1)
      have ht : ints (l.take (k + 1)) = ints (l.take k) ++ [.int .i64 y.val] := by rw [List.take_add_one, E6.out]; simp [ints]
      clear ho1 hg1 hv1 q3 q4 q1 q2
      go_wp2
      go_roundw
      case rel => exact ⟨k + 1, by omega, by go_num, by rw [ht]; exact ho2.out, hgw.out⟩
      case measure => simp [intOf]; omega
    · obtain rfl : k = at_.length := by omega
      clear hL hA
      go_wp2
      go_ret
      exact ⟨_, rfl, by have := ho.out; rwa [List.take_of_length_le (by have := V.out.1; omega)] at this, g.out⟩
end Go.Proofs.Yticlmcoegcfanaa.rf
