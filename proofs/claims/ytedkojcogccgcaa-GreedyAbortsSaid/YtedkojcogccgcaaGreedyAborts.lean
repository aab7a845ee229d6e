/-
  GreedyAborts: a foe that is younger, or waiting, is aborted at once, whatever was seen of it; for any state, any two sides, and any wait.
  Conditions: none.
-/
import Derived.Test.YtedkojcogccgcaaRows
import Derived.Test.YtedkojcogccgcaaOpen
import Derived.Test.YtedkojcogccgcaaOpenB
import Derived.Test.YtedkojcogccgcaaGreedy
namespace Go.Proofs.Ytedkojcogccgcaa.greedyAborts
open Go.ChangeShapes Go.WideShapes Go.ChangeAt Go.RowKit Go.Proofs.Ytedkojcogccgcaa.base Go.Proofs.Ytedkojcogccgcaa.ch Go.Proofs.Ytedkojcogccgcaa.gre
set_option linter.unusedVariables false

theorem walk1 (f t y p l mi ms mp mq : Int) (mb : Bool) (i st pr q : Int) (b : Bool) (n : Int) (lo : -9223372036854775808 ≤ t) (lo2 : -9223372036854775808 ≤ l) (w : World) :
    Calls Try.prog 5 #[.agg #[.int .i64 f, .int .i64 t, .int .i64 y, .int .i64 p, .int .i64 l], .agg #[.int .i64 mi, .int .i64 ms, .int .i64 mp, .int .i64 mq, .bool mb], .agg #[.int .i64 i, .int .i64 st, .int .i64 pr, .int .i64 q, .bool b], .int .i64 n] w fun e w' => e = .returned (.bool true) ∧ Below w.heap.size w w' := by
  have hcase : dK ms st b n (lL (mP f i p q) q (mL f i l)) = 1 ∨ (dK ms st b n (lL (mP f i p q) q (mL f i l)) = 2 ∧ st ≤ ms ∧ b = false) := by
    unfold dK
    split
    · exact .inl rfl
    · rename_i h
      refine .inr ⟨rfl, ?_, ?_⟩
      · exact Int.not_lt.1 fun x => h (.inl x)
      · cases b
        · rfl
        · exact absurd (.inr (.inl rfl)) h
  have D := fun u => decide_any f t y p l mi ms mp mq mb i st pr q b 0 n lo lo2 u
  generalize dK ms st b n (lL (mP f i p q) q (mL f i l)) = K at D hcase
  generalize dN ms st b n (lL (mP f i p q) q (mL f i l)) = N at D
  generalize dP ms st b (mP f i p q) q = P at D
  generalize dL ms st b (mL f i l) (lL (mP f i p q) q (mL f i l)) = L at D
  generalize mT f i t = T at D
  have HD := Lib.hid D
  clear D lo lo2
  rcases hcase with rfl | ⟨rfl, h1, rfl⟩
  · go_enter Try.func5, Try.ntmps5
    go_wp2_with fail
    refine (alive_any _).mono ?_
    rintro e v1 ⟨rfl, g1⟩
    have M1 := Lib.hid ((((Own.start w).alloc _ _).alloc _ _).alloc _ _ |>.grown g1.out)
    simp only [size_alloc] at M1
    clear g1
    have s0 := M1.out.cell 2 0 rfl rfl; have s1 := M1.out.cell 2 1 rfl rfl; have s2 := M1.out.cell 2 2 rfl rfl; have s3 := M1.out.cell 2 3 rfl rfl; have s4 := M1.out.cell 2 4 rfl rfl
    have m0 := M1.out.cell 1 0 rfl rfl; have m1 := M1.out.cell 1 1 rfl rfl; have m2 := M1.out.cell 1 2 rfl rfl; have m3 := M1.out.cell 1 3 rfl rfl; have m4 := M1.out.cell 1 4 rfl rfl
    have o0 := M1.out.cell 0 0 rfl rfl; have o1 := M1.out.cell 0 1 rfl rfl; have o2 := M1.out.cell 0 2 rfl rfl; have o3 := M1.out.cell 0 3 rfl rfl; have o4 := M1.out.cell 0 4 rfl rfl
    go_wp2_with fail
    refine (HD.out _).mono ?_
    rintro e v2 ⟨rfl, g2⟩
    clear s0 s1 s2 s3 s4 m0 m1 m2 m3 m4 o0 o1 o2 o3 o4
    have M2 := Lib.hid (((M1.out.grown g2.out).alloc 28 [.int .i64 1, .int .i64 N]).alloc 23 [.int .i64 i, .int .i64 T, .int .i64 y, .int .i64 P, .int .i64 L])
    simp only [size_alloc] at M2
    clear g2 M1
    have d0 := M2.out.cell 1 0 rfl rfl; have d1 := M2.out.cell 1 1 rfl rfl
    have o0 := M2.out.cell 2 0 rfl rfl; have o1 := M2.out.cell 2 1 rfl rfl; have o2 := M2.out.cell 2 2 rfl rfl; have o3 := M2.out.cell 2 3 rfl rfl; have o4 := M2.out.cell 2 4 rfl rfl
    have m0 := M2.out.cell 3 0 rfl rfl; have m1 := M2.out.cell 3 1 rfl rfl; have m2 := M2.out.cell 3 2 rfl rfl; have m3 := M2.out.cell 3 3 rfl rfl; have m4 := M2.out.cell 3 4 rfl rfl
    go_wp2
    go_ret
    exact ⟨rfl, M2.out.below⟩
  · go_enter Try.func5, Try.ntmps5
    go_wp2_with fail
    refine (alive_any _).mono ?_
    rintro e v1 ⟨rfl, g1⟩
    have M1 := Lib.hid ((((Own.start w).alloc _ _).alloc _ _).alloc _ _ |>.grown g1.out)
    simp only [size_alloc] at M1
    clear g1
    have s0 := M1.out.cell 2 0 rfl rfl; have s1 := M1.out.cell 2 1 rfl rfl; have s2 := M1.out.cell 2 2 rfl rfl; have s3 := M1.out.cell 2 3 rfl rfl; have s4 := M1.out.cell 2 4 rfl rfl
    have m0 := M1.out.cell 1 0 rfl rfl; have m1 := M1.out.cell 1 1 rfl rfl; have m2 := M1.out.cell 1 2 rfl rfl; have m3 := M1.out.cell 1 3 rfl rfl; have m4 := M1.out.cell 1 4 rfl rfl
    have o0 := M1.out.cell 0 0 rfl rfl; have o1 := M1.out.cell 0 1 rfl rfl; have o2 := M1.out.cell 0 2 rfl rfl; have o3 := M1.out.cell 0 3 rfl rfl; have o4 := M1.out.cell 0 4 rfl rfl
    go_wp2_with fail
    refine (HD.out _).mono ?_
    rintro e v2 ⟨rfl, g2⟩
    clear s0 s1 s2 s3 s4 m0 m1 m2 m3 m4 o0 o1 o2 o3 o4
    have M2 := Lib.hid (((M1.out.grown g2.out).alloc 28 [.int .i64 2, .int .i64 N]).alloc 23 [.int .i64 i, .int .i64 T, .int .i64 y, .int .i64 P, .int .i64 L])
    simp only [size_alloc] at M2
    clear g2 M1
    have d0 := M2.out.cell 1 0 rfl rfl; have d1 := M2.out.cell 1 1 rfl rfl
    have o0 := M2.out.cell 2 0 rfl rfl; have o1 := M2.out.cell 2 1 rfl rfl; have o2 := M2.out.cell 2 2 rfl rfl; have o3 := M2.out.cell 2 3 rfl rfl; have o4 := M2.out.cell 2 4 rfl rfl
    have m0 := M2.out.cell 3 0 rfl rfl; have m1 := M2.out.cell 3 1 rfl rfl; have m2 := M2.out.cell 3 2 rfl rfl; have m3 := M2.out.cell 3 3 rfl rfl; have m4 := M2.out.cell 3 4 rfl rfl
    go_wp2
    go_ret
    exact ⟨rfl, M2.out.below⟩

theorem walk (z0 : Nat → Int) (z1 : Nat → Int) (y1 : Nat → Bool) (z2 : Nat → Int) (y2 : Nat → Bool) (a3 : Int) (w : World) (w0 : ∀ i, i < 5 → (Lit.int .i64 (z0 i)).wf = true) (w1 : ∀ i, i < 5 → (Lit.int .i64 (z1 i)).wf = true) (w2 : ∀ i, i < 5 → (Lit.int .i64 (z2 i)).wf = true) (w3 : (Lit.int .i64 a3).wf = true) :
    Calls Try.prog 5 #[.agg #[.int .i64 (z0 0), .int .i64 (z0 1), .int .i64 (z0 2), .int .i64 (z0 3), .int .i64 (z0 4)], .agg #[.int .i64 (z1 0), .int .i64 (z1 1), .int .i64 (z1 2), .int .i64 (z1 3), .bool (y1 4)], .agg #[.int .i64 (z2 0), .int .i64 (z2 1), .int .i64 (z2 2), .int .i64 (z2 3), .bool (y2 4)], .int .i64 a3] w fun e w' => e = .returned (.bool true) ∧ Below w.heap.size w w' := by
  have := bounds_i64 (w0 1 (by omega))
  have := bounds_i64 (w0 4 (by omega))
  exact walk1 _ _ _ _ _ _ _ _ _ _ _ _ _ _ _ _ (by omega) (by omega) w

theorem own : ownKnob Try.prog.godebug = none := by kernel_rfl
theorem laidOut : laidOutB Try.prog = true := by kernel_rfl

/-! ### THE ROW's STEP, as the guide has it -/
set_option maxRecDepth 100000 in
theorem lifted (os : Os) (started : os.Started) (H : Type) (enc : TypeId × Value → H) :
    ReturnsInHanded {} Try.checked os 5 .any (Rows.greedyAbortsSpec.pre6 enc Try.prog Try.f5 Rows.greedyAbortsRow.domain false) (Rows.greedyAbortsSpec.post enc Try.prog Try.f5 false true false false) := by
  refine returnsInHanded_of_change (C := Try.checked) own started (by kernel_rfl) Try.func5
    (ChangeSpec.witness6 (enc := enc) (C := Try.checked) false ⟨#[], #[.agg #[.int .i64 0, .int .i64 0, .int .i64 0, .int .i64 0, .int .i64 0], .agg #[.int .i64 0, .int .i64 0, .int .i64 0, .int .i64 0, .bool false], .agg #[.int .i64 0, .int .i64 0, .int .i64 0, .int .i64 0, .bool false], .int .i64 0], []⟩ 8 (by kernel_rfl) (by kernel_rfl) (by kernel_rfl) (by kernel_rfl)) ?_
  intro W base args ds gs before hval0 hW hcnd _
  have hval : ∀ (j : Nat) t v, Try.f5.params[j]? = some t → args[j]? = some v → Value.okWide Try.prog W .any base t v := hval0
  have hW' := hW
  obtain ⟨p, q, hA0, hV, rfl, hfz, hnd⟩ := hW
  have hA : DataW.TrodAll enc Try.prog W 0 (fun _ => true) true Try.f5.params.toList args.toList ds p := hA0
  rw [Try.params5] at hA hval
  obtain ⟨v0, vs0, d0, ds0, p0, q0, hargs, rfl, rfl, h0, r0⟩ := trodAll_cons hA
  obtain ⟨v1, vs1, d1, ds1, p1, q1, rfl, rfl, rfl, h1, r1⟩ := trodAll_cons r0
  obtain ⟨v2, vs2, d2, ds2, p2, q2, rfl, rfl, rfl, h2, r2⟩ := trodAll_cons r1
  obtain ⟨v3, vs3, d3, ds3, p3, q3, rfl, rfl, rfl, h3, r3⟩ := trodAll_cons r2
  obtain ⟨rfl, rfl, rfl⟩ := trodAll_nil r3
  obtain rfl : args = #[v0, v1, v2, v3] := by cases args; simp_all
  obtain ⟨rfl, rfl⟩ := trodVars_none hV
  obtain ⟨cs0, rfl, sz0⟩ := okWide_struct Try.underlying23 (hval 0 23 v0 rfl rfl)
  have k0 := h0
  have lt0 : ∀ x ∈ p0, x.block < W.heap.size := by obtain ⟨m, hm⟩ := k0; exact DataW.trod_lt m _ _ _ hm
  obtain ⟨z0, w0, rfl⟩ : ∃ z : Nat → Int, (∀ i, i < 5 → (Lit.int .i64 (z i)).wf = true) ∧ cs0 = ⟨(List.range 5).map fun i => .int .i64 (z i)⟩ := by
    obtain ⟨fuel, hf⟩ := h0
    exact isAgg_of Try.underlying23 Try.underlying3 Try.underlying2 (by kernel_rfl) (by kernel_rfl) (sz0.trans (by kernel_rfl)) (by decide) hf
  obtain ⟨cs1, rfl, sz1⟩ := okWide_struct Try.underlying25 (hval 1 25 v1 rfl rfl)
  have k1 := h1
  have lt1 : ∀ x ∈ p1, x.block < W.heap.size := by obtain ⟨m, hm⟩ := k1; exact DataW.trod_lt m _ _ _ hm
  obtain ⟨z1, y1, w1, rfl⟩ : ∃ (z : Nat → Int) (y : Nat → Bool), (∀ i, i < 5 → (Lit.int .i64 (z i)).wf = true) ∧ cs1 = ⟨(List.range 5).map (mixed (fun j => j == 4) z y)⟩ := by
    obtain ⟨fuel, hf⟩ := h1
    exact isMix_of (fun j => j == 4) Try.underlying25 Try.underlying3 Try.underlying4 (by kernel_rfl) (by kernel_rfl) (sz1.trans (by kernel_rfl)) (by decide) hf
  obtain ⟨cs2, rfl, sz2⟩ := okWide_struct Try.underlying25 (hval 2 25 v2 rfl rfl)
  have k2 := h2
  have lt2 : ∀ x ∈ p2, x.block < W.heap.size := by obtain ⟨m, hm⟩ := k2; exact DataW.trod_lt m _ _ _ hm
  obtain ⟨z2, y2, w2, rfl⟩ : ∃ (z : Nat → Int) (y : Nat → Bool), (∀ i, i < 5 → (Lit.int .i64 (z i)).wf = true) ∧ cs2 = ⟨(List.range 5).map (mixed (fun j => j == 4) z y)⟩ := by
    obtain ⟨fuel, hf⟩ := h2
    exact isMix_of (fun j => j == 4) Try.underlying25 Try.underlying3 Try.underlying4 (by kernel_rfl) (by kernel_rfl) (sz2.trans (by kernel_rfl)) (by decide) hf
  obtain ⟨a3, rfl, rfl, rfl, w3⟩ := open_int Try.underlying3 (hval 3 3 v3 rfl rfl) h3
  clear hA0 hval0
  refine (walk z0 z1 y1 z2 y2 a3 W w0 w1 w2 w3).mono fun e W' ⟨he, bel⟩ => ?_
  subst he
  exact ⟨_, rfl, _, _, _, [], _, [], hW', trodAll_mk1 (shut_bool Try.underlying4 _), (trodAll_cons_mk (Below.trod laidOut (by kernel_rfl) (of_decide_eq_true (by kernel_rfl)) k0 bel lt0) (trodAll_cons_mk (Below.trod laidOut (by kernel_rfl) (of_decide_eq_true (by kernel_rfl)) k1 bel lt1) (trodAll_cons_mk (Below.trod laidOut (by kernel_rfl) (of_decide_eq_true (by kernel_rfl)) k2 bel lt2) (trodAll_cons_mk (shut_int Try.underlying3 w3) trodAll_mk0)))), rfl, bel.frame _, fun h => by cases h⟩

theorem over : Rows.greedyAbortsRow.holds Try.pinned (OpenSpec.ofChange Rows.greedyAbortsSpec) :=
  OpenClaim.holds_of_wide 5 Try.f5 rfl rfl rfl rfl rfl rfl rfl ⟨rfl, rfl, rfl, rfl, rfl⟩ rfl rfl rfl rfl rfl (by kernel_rfl) Try.func5 (by kernel_rfl)
    (of_decide_eq_true (by kernel_rfl)) (by unfold Func.isWrapper; first | (rw [if_pos (by decide +kernel)]; kernel_rfl) | (rw [if_neg (by decide +kernel)]; exact ⟨rfl, rfl⟩))
    (fun os started H enc _ => lifted os started H enc)

theorem proved : Rows.GreedyAbortsSaid := over
#print axioms proved
end Go.Proofs.Ytedkojcogccgcaa.greedyAborts
