/- Package floor: a floor with its cells, as one thing in front of others: what is asked of it. -/
import Derived.Test.YtocjbbfeegmkaaaFlZ
import Derived.Test.YtocjbbfeegmkaaaFlN
import Derived.Test.YtocjbbfeegmkaaaMade04
import Derived.Deep.RegionHeld3
namespace Go.Proofs.Ytocjbbfeegmkaaa.fl
open Go Go.RowKit Go.Proofs.Ytocjbbfeegmkaaa.base Go.Proofs.Ytocjbbfeegmkaaa.lg Go.Proofs.Ytocjbbfeegmkaaa.ce Go.Proofs.Ytocjbbfeegmkaaa.rf
set_option linter.unusedVariables false

/-- A floor's blocks in front of R, beside the thing P. -/
def HFlo (P : World → (Nat → Prop) → Prop) (w0 w : World) (fb n : Nat) (ds : List Int) (nx : Nat → Nat) (ev : List (Nat → Int)) (C : Core) (R : Blks) : Prop := ∃ X, FloX fb n ds nx ev C X ∧ Hold P w0 w (X ++ R)

section
variable {P P' Q Q' S : World → (Nat → Prop) → Prop} {w0 w w' : World} {L : Blks}
theorem hold_strip (h : Hold (Pair Nil Q) w0 w L) : Hold Q w0 w L := by
  obtain ⟨F, ⟨A, B, rfl, q, _, rfl⟩, hf, o⟩ := h
  have e : (fun k => (fun _ => False) k ∨ B k) = B := by funext k; simp
  rw [e] at hf o
  exact ⟨B, q, hf, o⟩
/-- What is done to the thing alone. -/
theorem Hold.stepP (h : Hold Q w0 w L) : ∃ A, Q w A ∧ ∀ (Q' : World → (Nat → Prop) → Prop) (w' : World) (A' : Nat → Prop), Q' w' A' → (∀ k, A' k → k < w'.heap.size) → Step A A' w w' → Hold Q' w0 w' L := by
  obtain ⟨A, q, hf, o⟩ := h
  refine ⟨A, q, fun Q' w' A' q' hk s => Hold.step o hf q' (fun k h1 => ⟨?_, hk k h1⟩) s⟩
  have hs := o.grow.size
  simp at hs
  rcases s.foot k h1 with h2 | h2
  · exact (hf k h2).1
  · omega
/-- What is done to the first one of two. -/
theorem Hold.stepL (h : Hold (Pair Q S) w0 w L) (hS : Firm S) : ∃ A, Q w A ∧ ∀ (Q' : World → (Nat → Prop) → Prop) (w' : World) (A' : Nat → Prop), Q' w' A' → (∀ k, A' k → k < w'.heap.size) → Step A A' w w' → Hold (Pair Q' S) w0 w' L := by
  obtain ⟨F, ⟨A, B, q, p, sep, rfl⟩, hf, o⟩ := h
  refine ⟨A, q, fun Q' w' A' q' hk s => ?_⟩
  have hb : ∀ k, B k → w'.heap[k]? = w.heap[k]? := fun k hB => s.only.block k (hf k (.inr hB)).2 (fun hA => sep k hA hB)
  have hs := o.grow.size
  simp at hs
  refine Hold.step o hf ⟨A', B, q', hS w w' B p hb, sep.step s (fun k hB => (hf k (.inr hB)).2), rfl⟩ (fun k h1 => ?_) ⟨s.only.mono fun k _ h => .inl h, fun k h1 => ?_⟩
  · rcases h1 with h1 | h1
    · refine ⟨?_, hk k h1⟩
      rcases s.foot k h1 with h2 | h2
      · exact (hf k (.inl h2)).1
      · omega
    · exact ⟨(hf k (.inr h1)).1, Nat.lt_of_lt_of_le (hf k (.inr h1)).2 s.only.size⟩
  · rcases h1 with h1 | h1
    · rcases s.foot k h1 with h2 | h2
      · exact .inl (.inl h2)
      · exact .inr h2
    · exact .inl (.inr h1)
theorem Hold.flip (h : Hold (Pair Q S) w0 w L) : Hold (Pair S Q) w0 w L := by
  obtain ⟨F, ⟨A, B, q, p, sep, rfl⟩, hf, o⟩ := h
  have e : (fun k => A k ∨ B k) = (fun k => B k ∨ A k) := by funext k; exact propext or_comm
  rw [e] at hf o
  exact ⟨_, ⟨B, A, p, q, sep.symm, rfl⟩, hf, o⟩
end

section
variable {P : World → (Nat → Prop) → Prop} {w0 w w' : World} {fb n : Nat} {ds : List Int} {nx : Nat → Nat} {ev : List (Nat → Int)} {C : Core} {R : Blks}
theorem HFlo.flo (h : HFlo P w0 w fb n ds nx ev C R) (hP : Firm P) : ∃ bb : Bas, bb.wd = w0 ∧ Flo bb w fb n ds nx ev C R ∧ ∀ w' nx' ev' C' R', Flo bb w' fb n ds nx' ev' C' R' → HFlo P w0 w' fb n ds nx' ev' C' R' := by
  obtain ⟨X, hX, H⟩ := h
  obtain ⟨bb, hb, o, back⟩ := H.call hP
  exact ⟨bb, hb, ⟨X, hX, o⟩, fun w' nx' ev' C' R' ⟨X', hX', o'⟩ => ⟨X', hX', back _ _ o'⟩⟩
theorem HFlo.grown (h : HFlo P w0 w fb n ds nx ev C R) (hP : Firm P) (g : w.grownBy w' none) : HFlo P w0 w' fb n ds nx ev C R := by
  obtain ⟨X, hX, H⟩ := h
  exact ⟨X, hX, H.grown hP g⟩
theorem HFlo.drew (h : HFlo P w0 w fb n ds nx ev C R) (hP : Firm P) : HFlo P w0 w.drew fb n ds nx ev C R := h.grown hP (gb_drew (gb_refl _ _))
theorem HFlo.drewN (h : HFlo P w0 w fb n ds nx ev C R) (hP : Firm P) (k : Nat) : HFlo P w0 (w.drewN k) fb n ds nx ev C R := h.grown hP (gb_drewN (gb_refl _ _) k)
theorem HFlo.grow (h : HFlo P w0 w fb n ds nx ev C R) : w0.grownBy w none := by
  obtain ⟨X, hX, H⟩ := h
  exact H.grow
theorem HFlo.cell (h : HFlo P w0 w fb n ds nx ev C R) (hP : Firm P) (k j : Nat) {c : Nat} {t : TypeId} {cs : List Value} {v : Value} (hk : R[k]? = some (c, t, cs)) (hv : cs[j]? = some v) : w.cell? ⟨c, j, none⟩ = some v := by
  obtain ⟨bb, _, F, _⟩ := h.flo hP
  exact F.cell k j hk hv
theorem HFlo.core (h : HFlo P w0 w fb n ds nx ev C R) : 1 ≤ n ∧ n ≤ 6 ∧ ds.length ≤ 1000000 := by
  obtain ⟨X, ⟨da, dc, nb, ea, ec, sw, pb, num, a, LB, LE, h1, h6, hnx, hdl, _⟩, H⟩ := h
  exact ⟨h1, h6, hdl⟩

/-- The gate, in front. -/
theorem flo_gate {bb : Bas} (h : Flo bb w fb n ds nx ev C R) : ∃ R', gate.Gt bb w C.g n C.b C.s C.t C.z C.A R' ∧ ∀ w' b' s' t' z' A', gate.Gt bb w' C.g n b' s' t' z' A' R' → Flo bb w' fb n ds nx ev { C with b := b', s := s', t := t', z := z', A := A' } R := by
  obtain ⟨X, ⟨da, dc, nb, ea, ec, sw, pb, num, a, LB, LE, h1, h6, hnx, hdl, hN, h0, hA, hR, hE, rfl⟩, O⟩ := h
  refine ⟨(fb, 86, [.pointer (some ⟨C.ab, 0, none⟩), .pointer (some ⟨C.tb, 0, none⟩), .pointer (some ⟨C.cb, 0, none⟩), .int .i64 C.o, .int .i64 n, .int .i64 C.r, .int .i64 C.k, .int .i64 C.m, .int .i64 C.p, .pointer (some ⟨C.tk, 0, none⟩), .pointer (some ⟨C.g, 0, none⟩), mgr C.m, .slice da ds.length dc, .slice (some ⟨nb, 0, none⟩) n n, .slice ea ev.length ec]) :: (nb, 3, vals (fun i => (nx i : Int)) n) :: (C.tk, 102, [.int .i64 C.k, .int .i64 C.tkn]) :: ((LB ++ LE) ++ R), ⟨sw, pb, num, a, h6, hN, h0, hA, O.perm ?_⟩, fun w' b' s' t' z' A' G => ?_⟩
  · exact ((List.perm_middle (l₁ := [_, _, _])).trans (List.Perm.cons _ ((List.perm_middle (l₁ := [_, _, _])).trans (List.Perm.cons _ (List.perm_middle (l₁ := [_, _, _]))))))
  · obtain ⟨sw', pb', num', a', h6', hN', h0', hA', o⟩ := G
    refine ⟨_, ⟨da, dc, nb, ea, ec, sw', pb', num', a', LB, LE, h1, h6, hnx, hdl, hN', h0', hA', hR, hE, rfl⟩, o.perm ?_⟩
    exact ((List.perm_middle (l₁ := [_, _, _])).trans (List.Perm.cons _ ((List.perm_middle (l₁ := [_, _, _])).trans (List.Perm.cons _ (List.perm_middle (l₁ := [_, _, _])))))).symm

theorem flo_take {bb : Bas} (h : Flo bb w fb n ds nx ev C R) (l : 0 ≤ C.tkn) (u : C.tkn < C.k) (v : C.k ≤ 255) : Calls Try.prog 28 #[.pointer (some ⟨C.tk, 0, none⟩)] w fun e w' => e = .returned (.tuple #[.int .i64 C.tkn, .int .i64 0]) ∧ Hid (Flo bb w' fb n ds nx ev { C with tkn := C.tkn + 1 } R) := by
  obtain ⟨X, ⟨da, dc, nb, ea, ec, sw, pb, num, a, LB, LE, h1, h6, hnx, hdl, hN, h0, hA, hR, hE, rfl⟩, O⟩ := h
  refine (wd.take_more C.tk C.k C.tkn w (O.get 2 rfl) l u v).mono ?_
  rintro e w' ⟨rfl, hr, hg⟩
  exact ⟨rfl, _, ⟨da, dc, nb, ea, ec, sw, pb, num, a, LB, LE, h1, h6, hnx, hdl, hN, h0, hA, hR, hE, rfl⟩, O.change 2 rfl hg.out hr.out⟩

theorem flo_take_end {bb : Bas} (h : Flo bb w fb n ds nx ev C R) (u : C.k ≤ C.tkn) : Calls Try.prog 28 #[.pointer (some ⟨C.tk, 0, none⟩)] w fun e w' => e = .returned (.tuple #[.int .i64 0, .int .i64 5]) ∧ Hid (Flo bb w' fb n ds nx ev C R) := by
  have H := h
  obtain ⟨X, ⟨da, dc, nb, ea, ec, sw, pb, num, a, LB, LE, h1, h6, hnx, hdl, hN, h0, hA, hR, hE, rfl⟩, O⟩ := h
  refine (wd.take_end C.tk C.k C.tkn w (O.get 2 rfl) u).mono ?_
  rintro e w' ⟨rfl, hr, hg⟩
  exact ⟨rfl, Has.grown H hg.out⟩

theorem flo_taken {bb : Bas} (h : Flo bb w fb n ds nx ev C R) : Calls Try.prog 26 #[.pointer (some ⟨C.tk, 0, none⟩)] w fun e w' => e = .returned (.int .i64 C.tkn) ∧ w = w' := by
  obtain ⟨X, ⟨da, dc, nb, ea, ec, sw, pb, num, a, LB, LE, h1, h6, hnx, hdl, hN, h0, hA, hR, hE, rfl⟩, O⟩ := h
  exact wd.taken_any C.tk C.k C.tkn w (O.get 2 rfl)

/-- Values, by what All answers. -/
theorem values_of {bb : Bas} (h : Flo bb w fb n ds nx ev C R) {post : Ending → World → Prop} (hp : ∀ e w', post e w' → ∃ a l c, e = .returned (.slice a l c)) (hA : Calls Try.prog 41 #[.pointer (some ⟨C.cb, 0, none⟩), .pointer (some ⟨C.tb, 0, none⟩)] w.drew post) :
    Calls Try.prog 17 #[.pointer (some ⟨fb, 0, none⟩)] w post := by
  obtain ⟨X, ⟨da, dc, nb, ea, ec, sw, pb, num, a, LB, LE, h1, h6, hnx, hdl, hN, h0, hA', hR, hE, rfl⟩, O⟩ := h
  have c1 := O.cell 0 1 rfl rfl
  have c2 := O.cell 0 2 rfl rfl
  have HA := Lib.hid hA
  have HP := Lib.hid hp
  clear O hR hE hN hnx hdl h1 h6 h0 hA hp hA'
  go_enter Try.func17, Try.ntmps17
  go_wp2
  go_region_with (go_at_call 41; refine HA.out.mono ?_; rintro e v hq; have HQ := Lib.hid hq; obtain ⟨sa, sl, sc, rfl⟩ := HP.out _ _ hq; clear hq)
  all_goals go_wp2
  all_goals go_ret
  all_goals exact HQ.out
end

end Go.Proofs.Ytocjbbfeegmkaaa.fl
