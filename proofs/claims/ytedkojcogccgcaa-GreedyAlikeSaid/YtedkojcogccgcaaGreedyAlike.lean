/-
  GreedyAlike: neither priorities, nor my pulse, nor draws play a part for what is decided; for any state, any two sides, any wait, and any number.
  Conditions: none (of numbers beyond 1<<40 the law says nothing by itself).
-/
import Derived.Test.YtedkojcogccgcaaRows
import Derived.Test.YtedkojcogccgcaaOpen
import Derived.Test.YtedkojcogccgcaaOpenB
import Derived.Test.YtedkojcogccgcaaGreedy
import Derived.Deep.CutRange
namespace Go.Proofs.Ytedkojcogccgcaa.greedyAlike
open Go.ChangeShapes Go.WideShapes Go.ChangeAt Go.RowKit Go.Proofs.Ytedkojcogccgcaa.base Go.Proofs.Ytedkojcogccgcaa.ch Go.Proofs.Ytedkojcogccgcaa.gre
set_option linter.unusedVariables false

theorem walk_out (f t y p l mi ms mp mq : Int) (mb : Bool) (i st pr q : Int) (b : Bool) (a3 n : Int) (h : 1099511627776 < n ∨ n < -1099511627776 ∨ t < -1099511627776 ∨ 1099511627776 < mp ∨ mp < -1099511627776) (w : World) :
    Calls Try.prog 6 #[.agg #[.int .i64 f, .int .i64 t, .int .i64 y, .int .i64 p, .int .i64 l], .agg #[.int .i64 mi, .int .i64 ms, .int .i64 mp, .int .i64 mq, .bool mb], .agg #[.int .i64 i, .int .i64 st, .int .i64 pr, .int .i64 q, .bool b], .int .u8 a3, .int .i64 n] w fun e w' => e = .returned (.bool true) ∧ Below w.heap.size w w' := by
  have h' : (1099511627776 < n) ∨ (n ≤ 1099511627776 ∧ n < -1099511627776) ∨ (n ≤ 1099511627776 ∧ -1099511627776 ≤ n ∧ t < -1099511627776) ∨ (n ≤ 1099511627776 ∧ -1099511627776 ≤ n ∧ -1099511627776 ≤ t ∧ 1099511627776 < mp) ∨ (n ≤ 1099511627776 ∧ -1099511627776 ≤ n ∧ -1099511627776 ≤ t ∧ mp ≤ 1099511627776 ∧ mp < -1099511627776) := by omega
  clear h
  rcases h' with h1 | ⟨h1, h2⟩ | ⟨h1, h2, h3⟩ | ⟨h1, h2, h3, h4⟩ | ⟨h1, h2, h3, h4, h5⟩
  all_goals
    go_enter Try.func6, Try.ntmps6
    go_wp2_with fail
    refine (alive_any _).mono ?_
    rintro e v1 ⟨rfl, g1⟩
    have M1 := Lib.hid ((((Own.start w).alloc _ _).alloc _ _).alloc _ _ |>.grown g1.out)
    simp only [size_alloc] at M1
    have s1 := M1.out.cell 2 1 rfl rfl
    have m2 := M1.out.cell 1 2 rfl rfl
    go_wp2
    go_ret
    exact ⟨rfl, M1.out.below⟩

set_option maxHeartbeats 2000000 in
theorem walkIn (f t y p l mi ms mp mq : Int) (mb : Bool) (i st pr q : Int) (b : Bool) (a3 n : Int) (l3 : 0 ≤ a3) (u3 : a3 ≤ 255) (h1 : n ≤ 1099511627776) (h2 : -1099511627776 ≤ n) (h3 : -1099511627776 ≤ t) (h4 : mp ≤ 1099511627776) (h5 : -1099511627776 ≤ mp) (lo2 : -9223372036854775808 ≤ l) (w : World) :
    Calls Try.prog 6 #[.agg #[.int .i64 f, .int .i64 t, .int .i64 y, .int .i64 p, .int .i64 l], .agg #[.int .i64 mi, .int .i64 ms, .int .i64 mp, .int .i64 mq, .bool mb], .agg #[.int .i64 i, .int .i64 st, .int .i64 pr, .int .i64 q, .bool b], .int .u8 a3, .int .i64 n] w fun e w' => e = .returned (.bool true) ∧ Below w.heap.size w w' := by
  have D := fun u => decide_any f t y p l mi ms mp mq mb i st pr q b 5 (1 + a3 % 64) (by omega) lo2 u
  have E := fun u => decide_any f t y p l mi ms n (n + 1) mb i st (n - 1) q b n (1 + a3 % 64) (by omega) lo2 u
  have Hok := Lib.hid (dOk ms st b (1 + a3 % 64) (lL (mP f i p q) q (mL f i l)) (by omega))
  generalize dK ms st b (1 + a3 % 64) (lL (mP f i p q) q (mL f i l)) = K at D E Hok
  generalize dN ms st b (1 + a3 % 64) (lL (mP f i p q) q (mL f i l)) = N at D E Hok
  generalize dP ms st b (mP f i p q) q = P at D E
  generalize dL ms st b (mL f i l) (lL (mP f i p q) q (mL f i l)) = L at D E
  generalize mT f i t = T at D E
  have HD := Lib.hid D
  have HE := Lib.hid E
  clear D E lo2
  go_enter Try.func6, Try.ntmps6
  go_wp2_with fail
  refine (alive_any _).mono ?_
  rintro e v1 ⟨rfl, g1⟩
  have M1 := Lib.hid ((((Own.start w).alloc _ _).alloc _ _).alloc _ _ |>.grown g1.out)
  simp only [size_alloc] at M1
  clear g1
  have s0 := M1.out.cell 2 0 rfl rfl; have s1 := M1.out.cell 2 1 rfl rfl; have s2 := M1.out.cell 2 2 rfl rfl; have s3 := M1.out.cell 2 3 rfl rfl; have s4 := M1.out.cell 2 4 rfl rfl
  have m0 := M1.out.cell 1 0 rfl rfl; have m1 := M1.out.cell 1 1 rfl rfl; have m2 := M1.out.cell 1 2 rfl rfl; have m3 := M1.out.cell 1 3 rfl rfl; have m4 := M1.out.cell 1 4 rfl rfl
  have o0 := M1.out.cell 0 0 rfl rfl; have o1 := M1.out.cell 0 1 rfl rfl; have o2 := M1.out.cell 0 2 rfl rfl; have o3 := M1.out.cell 0 3 rfl rfl; have o4 := M1.out.cell 0 4 rfl rfl
  go_wp2_with fail
  refine (HD.out _).mono ?_
  rintro e v2 ⟨rfl, g2⟩
  clear s0 s1 s2 s3 s4 m0 m1 m2 m3 m4 o0 o1 o2 o3 o4
  have M2 := Lib.hid (((M1.out.grown g2.out).alloc 28 [.int .i64 K, .int .i64 N]).alloc 23 [.int .i64 i, .int .i64 T, .int .i64 y, .int .i64 P, .int .i64 L])
  simp only [size_alloc] at M2
  clear g2 M1
  have m0 := M2.out.cell 3 0 rfl rfl; have m1 := M2.out.cell 3 1 rfl rfl; have m2 := M2.out.cell 3 2 rfl rfl; have m3 := M2.out.cell 3 3 rfl rfl; have m4 := M2.out.cell 3 4 rfl rfl
  have o0 := M2.out.cell 2 0 rfl rfl; have o1 := M2.out.cell 2 1 rfl rfl; have o2 := M2.out.cell 2 2 rfl rfl; have o3 := M2.out.cell 2 3 rfl rfl; have o4 := M2.out.cell 2 4 rfl rfl
  have mf0 := M2.out.free 3 0 rfl; have mf1 := M2.out.free 3 1 rfl; have mf2 := M2.out.free 3 2 rfl; have mf3 := M2.out.free 3 3 rfl; have mf4 := M2.out.free 3 4 rfl
  have of0 := M2.out.free 2 0 rfl; have of1 := M2.out.free 2 1 rfl; have of2 := M2.out.free 2 2 rfl; have of3 := M2.out.free 2 3 rfl; have of4 := M2.out.free 2 4 rfl
  obtain ⟨e1, e2⟩ := M2.out.ne' 2 3 rfl rfl (by decide)
  obtain ⟨e3, e4⟩ := M2.out.ne' 2 4 rfl rfl (by decide)
  obtain ⟨e5, e6⟩ := M2.out.ne' 3 4 rfl rfl (by decide)
  generalize w.heap.size + 1 = bm at *
  generalize bm + 1 = bo at *
  generalize w.heap.size = bs at *
  go_upto_region 9 with fail
  generalize (v2.alloc (.cells #[.int .i64 K, .int .i64 N] 28)).alloc (.cells #[.int .i64 i, .int .i64 T, .int .i64 y, .int .i64 P, .int .i64 L] 23) = u2 at *
  have M3 := Lib.hid (((M2.out.set 3 2 (.int .i64 n) rfl).set 3 3 (.int .i64 (n + 1)) rfl).set 2 2 (.int .i64 (n - 1)) rfl)
  simp only [List.set_cons_succ, List.set_cons_zero] at M3
  generalize ((u2.setCell ⟨bm, 2, none⟩ (.int .i64 n)).setCell ⟨bm, 3, none⟩ (.int .i64 (n + 1))).setCell ⟨bo, 2, none⟩ (.int .i64 (n - 1)) = u3 at *
  clear m0 m1 m2 m3 m4 o0 o1 o2 o3 o4 mf0 mf1 mf2 mf3 mf4 of0 of1 of2 of3 of4 M2
  have s0 := M3.out.cell 4 0 rfl rfl; have s1 := M3.out.cell 4 1 rfl rfl; have s2 := M3.out.cell 4 2 rfl rfl; have s3 := M3.out.cell 4 3 rfl rfl; have s4 := M3.out.cell 4 4 rfl rfl
  have m0 := M3.out.cell 3 0 rfl rfl; have m1 := M3.out.cell 3 1 rfl rfl; have m2 := M3.out.cell 3 2 rfl rfl; have m3 := M3.out.cell 3 3 rfl rfl; have m4 := M3.out.cell 3 4 rfl rfl
  have o0 := M3.out.cell 2 0 rfl rfl; have o1 := M3.out.cell 2 1 rfl rfl; have o2 := M3.out.cell 2 2 rfl rfl; have o3 := M3.out.cell 2 3 rfl rfl; have o4 := M3.out.cell 2 4 rfl rfl
  go_wp2_with fail
  refine (HE.out _).mono ?_
  rintro e v4 ⟨rfl, g4⟩
  clear s0 s1 s2 s3 s4 m0 m1 m2 m3 m4 o0 o1 o2 o3 o4
  have M4 := Lib.hid (((M3.out.grown g4.out).alloc 28 [.int .i64 K, .int .i64 N]).alloc 23 [.int .i64 i, .int .i64 T, .int .i64 y, .int .i64 P, .int .i64 L])
  simp only [size_alloc] at M4
  clear g4 M3
  have x0 := M4.out.cell 0 0 rfl rfl; have x1 := M4.out.cell 0 1 rfl rfl; have x2 := M4.out.cell 0 2 rfl rfl; have x3 := M4.out.cell 0 3 rfl rfl; have x4 := M4.out.cell 0 4 rfl rfl
  have d0 := M4.out.cell 1 0 rfl rfl; have d1 := M4.out.cell 1 1 rfl rfl
  have xa0 := M4.out.cell 2 0 rfl rfl; have xa1 := M4.out.cell 2 1 rfl rfl; have xa2 := M4.out.cell 2 2 rfl rfl; have xa3 := M4.out.cell 2 3 rfl rfl; have xa4 := M4.out.cell 2 4 rfl rfl
  have da0 := M4.out.cell 3 0 rfl rfl; have da1 := M4.out.cell 3 1 rfl rfl
  go_wp2_with fail
  refine (ok_true K N (1 + a3 % 64) Hok.out _).mono ?_
  rintro e v5 ⟨rfl, g5⟩
  have M5 := Lib.hid (M4.out.grown g5.out)
  go_wp2
  go_ret
  exact ⟨rfl, M5.out.below⟩

theorem walk (z0 : Nat → Int) (z1 : Nat → Int) (y1 : Nat → Bool) (z2 : Nat → Int) (y2 : Nat → Bool) (a3 a4 : Int) (w : World) (w0 : ∀ i, i < 5 → (Lit.int .i64 (z0 i)).wf = true) (w1 : ∀ i, i < 5 → (Lit.int .i64 (z1 i)).wf = true) (w2 : ∀ i, i < 5 → (Lit.int .i64 (z2 i)).wf = true) (w3 : (Lit.int .u8 a3).wf = true) (w4 : (Lit.int .i64 a4).wf = true) :
    Calls Try.prog 6 #[.agg #[.int .i64 (z0 0), .int .i64 (z0 1), .int .i64 (z0 2), .int .i64 (z0 3), .int .i64 (z0 4)], .agg #[.int .i64 (z1 0), .int .i64 (z1 1), .int .i64 (z1 2), .int .i64 (z1 3), .bool (y1 4)], .agg #[.int .i64 (z2 0), .int .i64 (z2 1), .int .i64 (z2 2), .int .i64 (z2 3), .bool (y2 4)], .int .u8 a3, .int .i64 a4] w fun e w' => e = .returned (.bool true) ∧ Below w.heap.size w w' := by
  have := bounds_u8 w3
  have := bounds_i64 (w0 4 (by omega))
  by_cases h : 1099511627776 < a4 ∨ a4 < -1099511627776 ∨ z0 1 < -1099511627776 ∨ 1099511627776 < z1 2 ∨ z1 2 < -1099511627776
  · exact walk_out _ _ _ _ _ _ _ _ _ _ _ _ _ _ _ _ _ h w
  · exact walkIn _ _ _ _ _ _ _ _ _ _ _ _ _ _ _ _ _ (by omega) (by omega) (by omega) (by omega) (by omega) (by omega) (by omega) (by omega) w

theorem own : ownKnob Try.prog.godebug = none := by kernel_rfl
theorem laidOut : laidOutB Try.prog = true := by kernel_rfl

/-! ### THE ROW's STEP, as the guide has it -/
set_option maxRecDepth 100000 in
theorem lifted (os : Os) (started : os.Started) (H : Type) (enc : TypeId × Value → H) :
    ReturnsInHanded {} Try.checked os 6 .any (Rows.greedyAlikeSpec.pre6 enc Try.prog Try.f6 Rows.greedyAlikeRow.domain false) (Rows.greedyAlikeSpec.post enc Try.prog Try.f6 false true false false) := by
  refine returnsInHanded_of_change (C := Try.checked) own started (by kernel_rfl) Try.func6
    (ChangeSpec.witness6 (enc := enc) (C := Try.checked) false ⟨#[], #[.agg #[.int .i64 0, .int .i64 0, .int .i64 0, .int .i64 0, .int .i64 0], .agg #[.int .i64 0, .int .i64 0, .int .i64 0, .int .i64 0, .bool false], .agg #[.int .i64 0, .int .i64 0, .int .i64 0, .int .i64 0, .bool false], .int .u8 0, .int .i64 0], []⟩ 8 (by kernel_rfl) (by kernel_rfl) (by kernel_rfl) (by kernel_rfl)) ?_
  intro W base args ds gs before hval0 hW hcnd _
  have hval : ∀ (j : Nat) t v, Try.f6.params[j]? = some t → args[j]? = some v → Value.okWide Try.prog W .any base t v := hval0
  have hW' := hW
  obtain ⟨p, q, hA0, hV, rfl, hfz, hnd⟩ := hW
  have hA : DataW.TrodAll enc Try.prog W 0 (fun _ => true) true Try.f6.params.toList args.toList ds p := hA0
  rw [Try.params6] at hA hval
  obtain ⟨v0, vs0, d0, ds0, p0, q0, hargs, rfl, rfl, h0, r0⟩ := trodAll_cons hA
  obtain ⟨v1, vs1, d1, ds1, p1, q1, rfl, rfl, rfl, h1, r1⟩ := trodAll_cons r0
  obtain ⟨v2, vs2, d2, ds2, p2, q2, rfl, rfl, rfl, h2, r2⟩ := trodAll_cons r1
  obtain ⟨v3, vs3, d3, ds3, p3, q3, rfl, rfl, rfl, h3, r3⟩ := trodAll_cons r2
  obtain ⟨v4, vs4, d4, ds4, p4, q4, rfl, rfl, rfl, h4, r4⟩ := trodAll_cons r3
  obtain ⟨rfl, rfl, rfl⟩ := trodAll_nil r4
  obtain rfl : args = #[v0, v1, v2, v3, v4] := by cases args; simp_all
  obtain ⟨rfl, rfl⟩ := trodVars_none hV
  obtain ⟨cs0, rfl, sz0⟩ := okWide_struct Try.underlying23 (hval 0 23 v0 rfl rfl)
  have k0 := h0
  have lt0 : ∀ x ∈ p0, x.block < W.heap.size := by obtain ⟨m, hm⟩ := k0; exact DataW.trod_lt m _ _ _ hm
  obtain ⟨z0, w0, rfl⟩ : ∃ z : Nat → Int, (∀ i, i < 5 → (Lit.int .i64 (z i)).wf = true) ∧ cs0 = ⟨(List.range 5).map fun i => .int .i64 (z i)⟩ := by
    obtain ⟨fuel, hf⟩ := h0
    exact isAgg_of Try.underlying23 Try.underlying3 Try.underlying2 (by kernel_rfl) (by kernel_rfl) (sz0.trans (by kernel_rfl)) (by decide) hf
  obtain ⟨cs1, rfl, sz1⟩ := okWide_struct Try.underlying25 (hval 1 25 v1 rfl rfl)
  have k1 := h1
  have lt1 : ∀ x ∈ p1, x.block < W.heap.size := by obtain ⟨m, hm⟩ := k1; exact DataW.trod_lt m _ _ _ hm
  obtain ⟨z1, y1, w1, rfl⟩ : ∃ (z : Nat → Int) (y : Nat → Bool), (∀ i, i < 5 → (Lit.int .i64 (z i)).wf = true) ∧ cs1 = ⟨(List.range 5).map (mixed (fun j => j == 4) z y)⟩ := by
    obtain ⟨fuel, hf⟩ := h1
    exact isMix_of (fun j => j == 4) Try.underlying25 Try.underlying3 Try.underlying4 (by kernel_rfl) (by kernel_rfl) (sz1.trans (by kernel_rfl)) (by decide) hf
  obtain ⟨cs2, rfl, sz2⟩ := okWide_struct Try.underlying25 (hval 2 25 v2 rfl rfl)
  have k2 := h2
  have lt2 : ∀ x ∈ p2, x.block < W.heap.size := by obtain ⟨m, hm⟩ := k2; exact DataW.trod_lt m _ _ _ hm
  obtain ⟨z2, y2, w2, rfl⟩ : ∃ (z : Nat → Int) (y : Nat → Bool), (∀ i, i < 5 → (Lit.int .i64 (z i)).wf = true) ∧ cs2 = ⟨(List.range 5).map (mixed (fun j => j == 4) z y)⟩ := by
    obtain ⟨fuel, hf⟩ := h2
    exact isMix_of (fun j => j == 4) Try.underlying25 Try.underlying3 Try.underlying4 (by kernel_rfl) (by kernel_rfl) (sz2.trans (by kernel_rfl)) (by decide) hf
  obtain ⟨a3, rfl, rfl, rfl, w3⟩ := open_int Try.underlying5 (hval 3 5 v3 rfl rfl) h3
  obtain ⟨a4, rfl, rfl, rfl, w4⟩ := open_int Try.underlying3 (hval 4 3 v4 rfl rfl) h4
  clear hA0 hval0
  refine (walk z0 z1 y1 z2 y2 a3 a4 W w0 w1 w2 w3 w4).mono fun e W' ⟨he, bel⟩ => ?_
  subst he
  exact ⟨_, rfl, _, _, _, [], _, [], hW', trodAll_mk1 (shut_bool Try.underlying4 _), (trodAll_cons_mk (Below.trod laidOut (by kernel_rfl) (of_decide_eq_true (by kernel_rfl)) k0 bel lt0) (trodAll_cons_mk (Below.trod laidOut (by kernel_rfl) (of_decide_eq_true (by kernel_rfl)) k1 bel lt1) (trodAll_cons_mk (Below.trod laidOut (by kernel_rfl) (of_decide_eq_true (by kernel_rfl)) k2 bel lt2) (trodAll_cons_mk (shut_int Try.underlying5 w3) (trodAll_cons_mk (shut_int Try.underlying3 w4) trodAll_mk0))))), rfl, bel.frame _, fun h => by cases h⟩

theorem over : Rows.greedyAlikeRow.holds Try.pinned (OpenSpec.ofChange Rows.greedyAlikeSpec) :=
  OpenClaim.holds_of_wide 6 Try.f6 rfl rfl rfl rfl rfl rfl rfl ⟨rfl, rfl, rfl, rfl, rfl⟩ rfl rfl rfl rfl rfl (by kernel_rfl) Try.func6 (by kernel_rfl)
    (of_decide_eq_true (by kernel_rfl)) (by unfold Func.isWrapper; first | (rw [if_pos (by decide +kernel)]; kernel_rfl) | (rw [if_neg (by decide +kernel)]; exact ⟨rfl, rfl⟩))
    (fun os started H enc _ => lifted os started H enc)

theorem proved : Rows.GreedyAlikeSaid := over
#print axioms proved
end Go.Proofs.Ytedkojcogccgcaa.greedyAlike
