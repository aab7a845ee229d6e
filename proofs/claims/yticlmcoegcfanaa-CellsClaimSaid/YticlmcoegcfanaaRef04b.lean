/- The document's own cells, their start. -/
import Derived.Test.YticlmcoegcfanaaRef04
import Derived.Test.YticlmcoegcfanaaOpen
namespace Go.Proofs.Yticlmcoegcfanaa.rf
open Go Go.RowKit Go.Proofs.Yticlmcoegcfanaa.base Go.Proofs.Yticlmcoegcfanaa.ar
set_option linter.unusedVariables false

/-- The records of the first k objects. -/
def firsts (z : Nat → Int) (k : Nat) : List Rc := (List.range k).flatMap fun i => [⟨1, z i, 0, 0, 0, 0, 0, 0, 0⟩, ⟨2, 0, -1, 2 * i, 2 * i, 0, 0, 0, 0⟩]
def heads (k : Nat) : List Int := (List.range k).map fun (i : Nat) => 2 * (i : Int) + 1
theorem firsts_succ (z : Nat → Int) (k : Nat) : firsts z (k + 1) = firsts z k ++ [⟨1, z k, 0, 0, 0, 0, 0, 0, 0⟩] ++ [⟨2, 0, -1, 2 * k, 2 * k, 0, 0, 0, 0⟩] := by simp [firsts, List.range_succ]
theorem firsts_length (z : Nat → Int) (k : Nat) : (firsts z k).length = 2 * k := by
  induction k with
  | zero => rfl
  | succ k ih => rw [firsts_succ, List.length_append, List.length_append, ih]; simp; omega
theorem heads_succ (k : Nat) : heads (k + 1) = heads k ++ [2 * (k : Int) + 1] := by simp [heads, List.range_succ]
theorem heads_length (k : Nat) : (heads k).length = k := by simp [heads]

section
variable {base : Nat} {w w' : World} {vb sb : Nat} {N : Int} {rs : List Rc} {at_ : List Int} {m : Nat} {st : Int → Option Int} {F : Nat → Prop}
/-- The objects' slice, as a field. -/
theorem RefC.view (h : RefC base w vb sb N rs at_ m st F) : ∃ lv r2, Fld 37 3 1 base w vb [.int .i64 N, lv] [.map (some sb)] at_.length (ints at_) r2 ∧
    (∀ (w' : World) (at' : List Int) (r2' : Option Nat), Fld 37 3 1 base w' vb [.int .i64 N, lv] [.map (some sb)] at'.length (ints at') r2' → Chg vb r2 r2' w w' → ∃ F', RefC base w' vb sb N rs at' m st F' ∧ Step F F' w w') := by
  obtain ⟨av, r1, hf, ha, hn, hm, hb, rfl⟩ := h
  obtain ⟨p1, p2, p3, p4⟩ := RefC.apart hf ha hm
  have hf0 := hf
  obtain ⟨hbase, hne, lv, hbk, ho, hr⟩ := hf0
  refine ⟨lv, av.ownBlock, ⟨hbase, hn, av, hbk, ha, rfl⟩, fun w' at' r2' hf' c => ?_⟩
  obtain ⟨_, hn', av', hbk', ha', hr'⟩ := hf'
  have hk : ∀ k, lv.ownBlock = some k → w'.heap[k]? = w.heap[k]? := fun k e => by
    refine c.block k (ho.lt k e).2 (fun e2 => hne (by rw [← hr, e, e2])) (fun e2 => ?_)
    rcases p4 with h | h
    · rw [← hr, e] at h; cases h
    · exact h (by rw [← hr, e, ← e2])
  refine ⟨_, ⟨av', r1, ⟨hbase, hne, lv, hbk', ownsRow_keep ho hk, hr⟩, ha', by rw [hr']; exact hn', hm.keep (c.block sb hm.lt (fun e => p1 e.symm) (fun e => p3 e.symm)), hb, rfl⟩, ⟨⟨c.os, c.tape, c.output, c.size, fun k hk hno => c.block k hk (fun e => hno (.inl e)) (fun e => hno (.inr (.inr (.inr e))))⟩, fun k hk => ?_⟩⟩
  rcases hk with h | h | h | h
  · exact .inl (.inl h)
  · exact .inl (.inr (.inl h))
  · exact .inl (.inr (.inr (.inl h)))
  · rw [hr'] at h
    rcases c.row with h1 | ⟨j, h1, hj⟩
    · exact .inl (.inr (.inr (.inr (by rw [h, h1]))))
    · rw [h1] at h
      cases h
      exact .inr hj
end

theorem infoInt : (Try.prog.info? 3).map (fun i => (i.zero, i.size, i.bytes)) = some (some (.int .i64 0), 1, 8) := by kernel_rfl

/-- At the head of a round of Start. -/
def RelStart (base vb sb : Nat) (N : Int) (z : Nat → Int) (m : Nat) (st : Int → Option Int) (F : Nat → Prop) (w : World) (len : Nat) (i : Value) (wr : World) : Prop :=
  ∃ (k : Nat) (F' : Nat → Prop), k ≤ len ∧ i = .int .i64 k ∧ RefC base wr vb sb N (firsts z k) (heads k) m st F' ∧ Step F F' w wr

set_option maxRecDepth 100000 in
set_option maxHeartbeats 4000000 in
theorem ref_start (base vb sb : Nat) (N : Int) (m : Nat) (st : Int → Option Int) (F : Nat → Prop) (w : World) (h : RefC base w vb sb N [] [] m st F) (hbs : base ≤ w.heap.size) (a : Option Addr) (len cap : Nat) (z : Nat → Int) (hz : IsRow .i64 w a len cap z) (hF : ∀ b off, a = some ⟨b, off, none⟩ → b < base) (hN : 2 * (len : Int) ≤ N) (hN2 : N ≤ 4096) :
    Calls Try.prog 12 #[.pointer (some ⟨vb, 0, none⟩), .slice a len cap] w fun e w' => ∃ F', e = .returned (.tuple #[]) ∧ Hid (RefC base w' vb sb N (firsts z len) (heads len) m st F') ∧ Hid (Step F F' w w') := by
  have H := Lib.hid h
  have W := Lib.hid hz
  have HF := Lib.hid hF
  have hbs1 := Lib.hid hbs
  obtain ⟨i0, hi0, hz00, hz10, hz20⟩ := info_parts infoInt
  have hi := Lib.hid hi0
  have hz0 := Lib.hid hz00
  have hz1 := Lib.hid hz10
  have hz2 := Lib.hid hz20
  clear h hz hF hi0 hz00 hz10 hz20 hbs
  go_enter Try.func12, Try.ntmps12
  go_wp2_with fail
  go_loopw [4] (fun i wr => RelStart base vb sb N z m st F w len i wr) (fun i _ => (len - intOf i).toNat)
  case atStart => exact ⟨0, F, by omega, rfl, H.out, Step.refl _ _⟩
  case round =>
    obtain ⟨k, F1, hk, rfl, R0, S0⟩ := hrel
    have R := Lib.hid R0
    have S := Lib.hid S0
    have hbw : Hid (base ≤ wr.heap.size) := Nat.le_trans hbs1.out S0.only.size
    clear R0 S0
    by_cases hlt : k < len
    · obtain ⟨_, _, h | ⟨b2, off2, rfl, hb2, hz⟩⟩ := W.out
      · exfalso; omega
      have hb3 := HF.out b2 off2 rfl
      have hcell : wr.cell? ⟨b2, off2 + k, none⟩ = some (.int .i64 (z k)) := (World.cell?_of_block (S.out.only.block b2 hb2 (fun e => by have := (H.out.foot b2 e).1; omega))).trans (hz k hlt).1
      have hlt' : (k : Int) < (len : Int) := by omega
      have lb := World.block_lt_of_cell? _ _ hcell
      clear hz hb2 hb3
      go_wp2_with fail
      refine (ref_put base vb sb N (firsts z k) (heads k) m st F1 wr R.out ⟨1, z k, 0, 0, 0, 0, 0, 0, 0⟩ (by rw [firsts_length]; omega) hN2 hbw.out).mono ?_
      rintro e u1 ⟨F2, rfl, R1, S1, _⟩
      have el : ((firsts z k).length : Int) = 2 * (k : Int) := by rw [firsts_length]; omega
      rw [el]
      have S2 := Lib.hid (S.out.trans S1.out)
      have hb1 : Hid (base ≤ u1.heap.size) := Nat.le_trans hbw.out S1.out.only.size
      obtain ⟨lv, r2, V1, back1⟩ := R1.out.view
      have HV := Lib.hid V1
      have HB := Lib.hid back1
      obtain ⟨av, kv, hbk, _, _⟩ := V1.open
      have c2 := hbk.cell 2
      have lvb := hbk.lt
      clear V1 back1 hbk S S1 R hcell lb
      go_wp2_with fail
      have el2 : ((firsts z k ++ [(⟨1, z k, 0, 0, 0, 0, 0, 0, 0⟩ : Rc)]).length : Int) = 2 * (k : Int) + 1 := by rw [List.length_append, firsts_length]; simp
      have hk4 : 2 * (k : Int) + 2 ≤ 4096 := by omega
      go_region_law (first | (refine step_call rfl 14 #[.pointer (some ⟨vb, 0, none⟩), .agg #[.int .i64 2, .int .i64 0, .int .i64 (-1), .int .i64 (2 * k), .int .i64 (2 * k), .int .i64 0, .int .i64 0, .int .i64 0, .int .i64 0]] (by simp [Act.eval, go_sem]) (ref_put base vb sb N (firsts z k ++ [⟨1, z k, 0, 0, 0, 0, 0, 0, 0⟩]) (heads k) m st F2 u1.drew (R1.out.grown (gb_drew (gb_refl _ _))) ⟨2, 0, -1, 2 * k, 2 * k, 0, 0, 0, 0⟩ (by rw [el2]; omega) hN2 hb1.out) ?_; rw [el2]; rintro e u2 ⟨F3, rfl, R2, S3, k2⟩; refine ⟨_, rfl, ?_⟩; have c3 := k2.out.trans c2; obtain ⟨lv2, r3, V2, back2⟩ := R2.out.view; obtain ⟨av2, kv2, hbk2, ho2', hr2'⟩ := V2.open; have c4 := hbk2.cell 2; have f4 := hbk2.free 2; have lv4 := hbk2.lt; have HV2 := Lib.hid V2; have HB2 := Lib.hid back2; have ho2 := Lib.hid ho2'; have hr2 := Lib.hid hr2'; obtain ⟨rfl, rfl⟩ : av = av2 ∧ kv = kv2 := (by have := c3.symm.trans c4; simpa using this); clear V2 back2 hbk2 ho2' hr2') | (refine step_append_at rfl (.tmp 23) (.tmp 29) 35 rfl base 3 i0 (.int .i64 0) 1 8 Try.underlying35 hi.out hz0.out hz1.out hz2.out rfl (by decide) (.slice av (heads k).length kv) (heads k).length (ints (heads k)) (by simp [Act.eval]) (ho2.out.alloc _) ⟨u2.heap.size, 0, none⟩ 1 1 [.int .i64 (2 * (k : Int) + 1)] (by simp [Act.eval]) rfl (new_cells u2 _ _) (by intro u hu; simp at hu; subst hu; rfl) (by rw [heads_length]; unfold maxLen; omega) (by rw [heads_length]; omega) (by have := hb1.out; have := S3.out.only.size; simp at this ⊢; omega) (by decide) ?_; intro g' c' w1 ho1 hg1 hv1; have hg2 := Lib.hid (show World.grownBy _ w1 r3 from hr2.out ▸ hg1); have ho3 := Lib.hid ho1; have hv2 := Lib.hid hv1; obtain ⟨c5, f5⟩ := HV2.out.mid c4 hg2.out; clear ho1 hg1 hv1))
      all_goals
        have hp := ((HV2.out.alloc (.cells #[.int .i64 (2 * (k : Int) + 1)] 3))).put ho3.out hg2.out (by rw [← hr2.out]; exact hv2.out)
        have hp2 := hp.2.after (gb_alloc (gb_refl u2 none) _)
        have e3 : (heads (k + 1)).length = (heads k).length + 1 := by rw [heads_length, heads_length]
        have e4 : ints (heads (k + 1)) = ints (heads k) ++ [.int .i64 (2 * (k : Int) + 1)] := by rw [heads_succ, ints_snoc]
        obtain ⟨F4, R4, S4⟩ := HB2.out _ (heads (k + 1)) _ (by rw [e3, e4]; exact hp.1) hp2
        rw [← firsts_succ] at R4
        have R5 := Lib.hid R4
        have S5 := Lib.hid (S2.out.trans ((Step.none (gb_drew (gb_refl u1 none))).trans (S3.out.trans S4)))
        clear hp hp2 R4 S4 e3 e4
        go_wp2
        go_roundw
        case rel => exact ⟨k + 1, F4, by omega, by go_num, R5.out, S5.out⟩
        case measure => simp [intOf]; omega
    · obtain rfl : k = len := by omega
      go_wp2
      go_end0
      exact ⟨F1, rfl, R.out, S.out⟩
end Go.Proofs.Yticlmcoegcfanaa.rf
