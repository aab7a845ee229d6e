/- What the statement CellsActs does to the document's own cells beside their functions: a cell is written, a status; and both sides as one. -/
import Derived.Test.YticlmcoegcfanaaActsB
namespace Go.Proofs.Yticlmcoegcfanaa.acts
open Go Go.RowKit Go.Proofs.Yticlmcoegcfanaa.base Go.Proofs.Yticlmcoegcfanaa.ar Go.Proofs.Yticlmcoegcfanaa.ds Go.Proofs.Yticlmcoegcfanaa.rf Go.Proofs.Yticlmcoegcfanaa.mm Go.Proofs.Yticlmcoegcfanaa.vl Go.Proofs.Yticlmcoegcfanaa.ce Go.Maps
set_option linter.unusedVariables false

theorem ownsRow_set {w : World} {base : Nat} {e : TypeId} {g n cap : Nat} {xs : List Value} (h : w.ownsRow base e 1 (.slice (some ⟨g, 0, none⟩) n cap) n xs) {j : Nat} (hj : j < n) (u : Value) : (w.setCell ⟨g, j, none⟩ u).ownsRow base e 1 (.slice (some ⟨g, 0, none⟩) n cap) n (xs.set j u) := by
  obtain ⟨hl, h⟩ := h
  refine ⟨by rw [List.length_set]; exact hl, ?_⟩
  rcases h with ⟨e1, _⟩ | ⟨g', cap', cur, e1, hb, hg, hnc, hcm, hcs, ht⟩
  · cases e1
  · injection e1 with e2 e3 e4
    injection e2 with e2
    injection e2 with e2
    subst e2
    subst e4
    have hB : Blk e (w.setCell ⟨g, j, none⟩ u) g (cur.setIfInBounds j u) := Blk.set hg j u
    refine .inr ⟨g, cap, cur.setIfInBounds j u, rfl, hb, hB, hnc, hcm, by simpa using hcs, ?_⟩
    rw [Array.toList_setIfInBounds, List.take_set, ht]

section
variable {base : Nat} {w w' : World} {vb sb : Nat} {N : Int} {rs : List Rc} {at_ : List Int} {m m' : Nat} {st st' : Int → Option Int} {F : Nat → Prop}
theorem RefC_setAt (h : RefC base w vb sb N rs at_ m st F) {g n k : Nat} (c : w.cell? ⟨vb, 2, none⟩ = some (.slice (some ⟨g, 0, none⟩) n k)) {j : Nat} (hj : j < at_.length) (x : Int) :
    w.frozen? ⟨g, j, none⟩ = false ∧ (F g ∧ vb ≠ g) ∧ RefC base (w.setCell ⟨g, j, none⟩ (.int .i64 x)) vb sb N rs (at_.set j x) m st F := by
  obtain ⟨av, r1, hf, ha, hn, hm, hb, rfl⟩ := h
  obtain ⟨p1, p2, p3, p4⟩ := RefC.apart hf ha hm
  obtain ⟨ao, cap, hbk, _, _⟩ := hf.open
  have c2 := hbk.cell 2
  rw [c] at c2
  have e : av = .slice (some ⟨g, 0, none⟩) n k := by simpa using c2.symm
  subst e
  have ho : (Value.slice (some ⟨g, 0, none⟩) n k).ownBlock = some g := rfl
  have en : n = at_.length := by
    rcases ha.2 with ⟨e1, _⟩ | ⟨g', cap', cur, e1, _⟩
    · cases e1
    · injection e1
  subst en
  obtain ⟨cur, hg⟩ := ownsRow_type ha ho
  refine ⟨by simp [World.frozen?, hg], ⟨.inr (.inr (.inr ho.symm)), fun e => hn (by rw [ho, e])⟩, ⟨.slice (some ⟨g, 0, none⟩) at_.length k, r1, hf.other (fun e => hn (by rw [ho, e])) (fun e => ?_) _, ?_, hn, hm.keep (Below.heap_setCell _ _ _ _ (fun e => p3 (by rw [ho, e]))), hb, rfl⟩⟩
  · rcases p4 with h | h
    · rw [h] at e; cases e
    · exact h (by rw [e, ho])
  · have := ownsRow_set ha hj (.int .i64 x)
    rw [List.length_set]
    have e2 : ints (at_.set j x) = (ints at_).set j (.int .i64 x) := by simp [ints, List.map_set]
    rw [e2]
    exact this
theorem ref_in_vb (h : RefC base w vb sb N rs at_ m st F) : F vb := by
  obtain ⟨av, r1, hf, ha, hn, hm, hb, rfl⟩ := h
  exact .inl rfl
theorem ref_in_at (h : RefC base w vb sb N rs at_ m st F) {g n k : Nat} (c : w.cell? ⟨vb, 2, none⟩ = some (.slice (some ⟨g, 0, none⟩) n k)) : F g := by
  obtain ⟨av, r1, hf, ha, hn, hm, hb, rfl⟩ := h
  obtain ⟨ao, cap, hbk, _, _⟩ := hf.open
  have c2 := hbk.cell 2
  rw [c] at c2
  have e : av = .slice (some ⟨g, 0, none⟩) n k := by simpa using c2.symm
  subst e
  exact .inr (.inr (.inr rfl))
theorem RefC_map (h : RefC base w vb sb N rs at_ m st F) : MapF Try.prog 3 w sb m (stv st) ∧ F sb ∧ ∀ (w' : World) (m' : Nat) (st' : Int → Option Int), MapF Try.prog 3 w' sb m' (stv st') → w.grownBy w' (some sb) → RefC base w' vb sb N rs at_ m' st' F := by
  obtain ⟨av, r1, hf, ha, hn, hm, hb, rfl⟩ := h
  obtain ⟨p1, p2, p3, p4⟩ := RefC.apart hf ha hm
  refine ⟨hm, .inr (.inl rfl), fun w' m' st' hm' g => ⟨av, r1, hf.keep (g.block vb hf.lt (fun e => p1 (by simpa using e))) (fun k e => g.block k (hf.row_lt k e).2 (fun e2 => p2 (by rw [e, e2]))), ownsRow_keep ha (fun k e => g.block k (ha.lt k e).2 (fun e2 => p3 (by rw [e, e2]))), hn, hm', hb, rfl⟩⟩
end

/-- 'm[j] = v', j there already. -/
theorem MapF_over {P : Program} {k e t : TypeId} {w : World} {b n : Nat} {f : Int → Option Value} (h : MapF P k w b n f) (hk : P.underlying k = some (.int .i64)) (ht : P.underlying t = some (.map k e)) (hn : n < maxLen) {j : Int} (hj : (Lit.int .i64 j).wf = true) {u0 : Value} (hf : f j = some u0) (v : Value) :
    ∃ w', (Instr.mapUpdate t (.map (some b)) (.int .i64 j) v).run P w = .ok () w' ∧ MapF P k w' b n (fun i => if i = j then some v else f i) ∧ w.grownBy w' (some b) := by
  obtain ⟨D, h, hs, hD⟩ := h
  have K := int_keyed hk
  have hkey := keyOf_int_mk hk hj
  obtain ⟨w', hr, ho, hg⟩ := h.update K ht hn hkey (val := v) (d := .held v) (ps := []) rfl
  have h0 : Maps.has D (.int .i64 j) = true := by rw [(hD j).1, hf]; rfl
  have hsz : Maps.size (D.put (.int .i64 j) (.held v)) = n := by rw [size_put (h.tidy K), h0, if_pos rfl, hs]
  refine ⟨w', hr, ⟨_, ?_, hsz, fun i => ?_⟩, hg⟩
  · obtain ⟨es', clock', hb', F', hle, hD'⟩ := ho
    refine ⟨es', clock', hb', F', ?_, hD'⟩
    have e2 := hsz
    rw [hD', size_eq, length_sorted] at e2
    simp at e2
    omega
  · by_cases hi : i = j
    · subst hi
      rw [has_put_same h.isMap (K.key hkey)]
      refine ⟨by simp, fun u z hu => ?_⟩
      simp at hu
      subst hu
      exact atKey_put_same h.isMap (K.key hkey) _ _
    · have hne : (Lit.int .i64 i) ≠ .int .i64 j := fun e => hi (by cases e; rfl)
      rw [has_put_other hne]
      refine ⟨by simpa [hi] using (hD i).1, fun u z hu => ?_⟩
      simp [hi] at hu
      rw [atKey_put_other hne]
      exact (hD i).2 u z hu

/-- Both sides, and the act in block q. -/
structure Bt (w0 : World) (b0 b1 cb tb ab vb sb : Nat) (N : Int) (q : Nat) (xs : Array Value) (w : World) (rs : List Rc) (hd : List Int) (m : Nat) (is : Int → Bool) (num : Int → Nat → Int) (B : Int) (F : Nat → Prop) (rs2 : List Rc) (hd2 : List Int) (m2 : Nat) (st : Int → Option Int) (G : Nat → Prop) : Prop where
  c : Cel b0 w cb tb ab N rs hd m is num B F
  r : RefC b1 w vb sb N rs2 hd2 m2 st G
  s : Sep F G
  l0 : w0.heap.size ≤ b0
  l1 : w0.heap.size ≤ b1
  bel : Below w0.heap.size w0 w
  x : Blk 40 w q xs
  nf : ¬ F q
  ng : ¬ G q

section
variable {w0 : World} {b0 b1 cb tb ab vb sb : Nat} {N : Int} {q : Nat} {xs : Array Value} {w w' : World} {rs rs' : List Rc} {hd hd' : List Int} {m m' : Nat} {is is' : Int → Bool} {num num' : Int → Nat → Int} {B B' : Int} {F F' : Nat → Prop} {rs2 rs2' : List Rc} {hd2 hd2' : List Int} {m2 m2' : Nat} {st st' : Int → Option Int} {G G' : Nat → Prop}
theorem Bt.cel (h : Bt w0 b0 b1 cb tb ab vb sb N q xs w rs hd m is num B F rs2 hd2 m2 st G) (C : Cel b0 w' cb tb ab N rs' hd' m' is' num' B' F') (S : Step F F' w w') : Bt w0 b0 b1 cb tb ab vb sb N q xs w' rs' hd' m' is' num' B' F' rs2 hd2 m2 st G := by
  refine ⟨C, h.r.only S.only h.s.symm, h.s.step S (fun k hk => (h.r.foot k hk).2), h.l0, h.l1, ?_, h.x.keep (S.only.block q h.x.lt h.nf), fun e => ?_, h.ng⟩
  · exact S.low h.bel (by have := h.c.base_size; have := h.l0; omega) (fun i hi => by have := (h.c.foot i hi).1; have := h.l0; omega)
  · rcases S.foot q e with h1 | h1
    · exact h.nf h1
    · have := h.x.lt; omega
theorem Bt.ref (h : Bt w0 b0 b1 cb tb ab vb sb N q xs w rs hd m is num B F rs2 hd2 m2 st G) (R : RefC b1 w' vb sb N rs2' hd2' m2' st' G') (T : Step G G' w w') : Bt w0 b0 b1 cb tb ab vb sb N q xs w' rs hd m is num B F rs2' hd2' m2' st' G' := by
  refine ⟨h.c.only T.only h.s, R, (h.s.symm.step T (fun k hk => (h.c.foot k hk).2)).symm, h.l0, h.l1, ?_, h.x.keep (T.only.block q h.x.lt h.ng), h.nf, fun e => ?_⟩
  · obtain ⟨_, _, _, _, hvl, _⟩ := h.r.cells
    exact T.low h.bel (h.bel.size) (fun i hi => by have := (h.r.foot i hi).1; have := h.l1; omega)
  · rcases T.foot q e with h1 | h1
    · exact h.ng h1
    · have := h.x.lt; omega
theorem Bt.grown (h : Bt w0 b0 b1 cb tb ab vb sb N q xs w rs hd m is num B F rs2 hd2 m2 st G) (g : w.grownBy w' none) : Bt w0 b0 b1 cb tb ab vb sb N q xs w' rs hd m is num B F rs2 hd2 m2 st G :=
  ⟨h.c.grown g, h.r.grown g, h.s, h.l0, h.l1, bl_none h.bel g, h.x.grown g (by simp), h.nf, h.ng⟩
theorem Bt.size1 (h : Bt w0 b0 b1 cb tb ab vb sb N q xs w rs hd m is num B F rs2 hd2 m2 st G) : b1 ≤ w.heap.size := by
  obtain ⟨av, r1, hf, _⟩ := h.r
  have := hf.base_le
  have := hf.lt
  omega
theorem Bt.mono (h : Bt w0 b0 b1 cb tb ab vb sb N q xs w rs hd m is num B F rs2 hd2 m2 st G) (hB : B ≤ B') : Bt w0 b0 b1 cb tb ab vb sb N q xs w rs hd m is num B' F rs2 hd2 m2 st G :=
  ⟨h.c.mono hB, h.r, h.s, h.l0, h.l1, h.bel, h.x, h.nf, h.ng⟩
end
/-- Behind a round's switch: block q has the act. -/
def Mid (w : World) (b0 b1 cb tb ab vb sb : Nat) (N : Int) (L : Nat) (B : Int) (m2 q : Nat) (K A Bb Cc V : Int) (wx : World) : Prop :=
  ∃ (rs : List Rc) (hd : List Int) (m : Nat) (is : Int → Bool) (num : Int → Nat → Int) (B' : Int) (m2' : Nat) (st : Int → Option Int) (F G : Nat → Prop), (B ≤ B' ∧ B' ≤ B + 200) ∧ m2' ≤ m2 + 1 ∧
    Cel b0 wx cb tb ab N rs hd m is num B' F ∧ RefC b1 wx vb sb N rs hd m2' st G ∧ Sep F G ∧ Inv N L rs hd m is num st ∧ Below w.heap.size w wx ∧ Blk 40 wx q #[.int .i64 K, .int .i64 A, .int .i64 Bb, .int .i64 Cc, .int .i64 V] ∧ ¬ F q ∧ ¬ G q

theorem mid_of {w : World} {b0 b1 cb tb ab vb sb : Nat} {N : Int} {L : Nat} {B : Int} {m2 q : Nat} {K A Bb Cc V : Int} {wx : World} {rs : List Rc} {hd : List Int} {m : Nat} {is : Int → Bool} {num : Int → Nat → Int} {B' : Int} {m2' : Nat} {st : Int → Option Int} {F G : Nat → Prop}
    (h : Bt w b0 b1 cb tb ab vb sb N q #[.int .i64 K, .int .i64 A, .int .i64 Bb, .int .i64 Cc, .int .i64 V] wx rs hd m is num B' F rs hd m2' st G) (I : Inv N L rs hd m is num st) (hB : B ≤ B' ∧ B' ≤ B + 200) (hm : m2' ≤ m2 + 1) : Mid w b0 b1 cb tb ab vb sb N L B m2 q K A Bb Cc V wx :=
  ⟨rs, hd, m, is, num, B', m2', st, F, G, hB, hm, h.c, h.r, h.s, I, h.bel, h.x, h.nf, h.ng⟩
end Go.Proofs.Yticlmcoegcfanaa.acts
