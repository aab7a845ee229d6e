/-
  GreedyDecides: the decision about any foe, and the state behind it, are the document's; for any state, any two sides, any draw, and any wait.
  Conditions: none.
-/
import Derived.Test.YtedkojcogccgcaaRows
import Derived.Test.YtedkojcogccgcaaOpen
import Derived.Test.YtedkojcogccgcaaOpenB
import Derived.Test.YtedkojcogccgcaaGreedy
namespace Go.Proofs.Ytedkojcogccgcaa.greedyDecides
open Go.ChangeShapes Go.WideShapes Go.ChangeAt Go.RowKit Go.Proofs.Ytedkojcogccgcaa.base Go.Proofs.Ytedkojcogccgcaa.ch Go.Proofs.Ytedkojcogccgcaa.gre
set_option linter.unusedVariables false

set_option maxHeartbeats 2000000 in
theorem walk1 (f t y p l mi ms mp mq : Int) (mb : Bool) (i st pr q : Int) (b : Bool) (d n : Int) (lo : -9223372036854775808 ≤ t) (lo2 : -9223372036854775808 ≤ l) (w : World) :
    Calls Try.prog 3 #[.agg #[.int .i64 f, .int .i64 t, .int .i64 y, .int .i64 p, .int .i64 l], .agg #[.int .i64 mi, .int .i64 ms, .int .i64 mp, .int .i64 mq, .bool mb], .agg #[.int .i64 i, .int .i64 st, .int .i64 pr, .int .i64 q, .bool b], .int .i64 d, .int .i64 n] w fun e w' => e = .returned (.bool true) ∧ Below w.heap.size w w' := by
  have D := fun u => decide_any f t y p l mi ms mp mq mb i st pr q b d n lo lo2 u
  have R := fun (s : Nat) (u : World) (h : RS u s f t y p l) => refdecide_any s f t y p l mi ms mp mq mb i st pr q b d n lo lo2 u h
  generalize dK ms st b n (lL (mP f i p q) q (mL f i l)) = K at D R
  generalize dN ms st b n (lL (mP f i p q) q (mL f i l)) = N at D R
  generalize dP ms st b (mP f i p q) q = P at D R
  generalize dL ms st b (mL f i l) (lL (mP f i p q) q (mL f i l)) = L at D R
  generalize mT f i t = T at D R
  have HD := Lib.hid D
  have HR := Lib.hid R
  clear D R lo lo2
  go_enter Try.func3, Try.ntmps3
  go_wp2_with fail
  refine (alive_any _).mono ?_
  rintro e v1 ⟨rfl, g1⟩
  have M1 := Lib.hid ((((Own.start w).alloc _ _).alloc _ _).alloc _ _ |>.grown g1.out)
  simp only [size_alloc] at M1
  clear g1
  have s0 := M1.out.cell 2 0 rfl rfl; have s1 := M1.out.cell 2 1 rfl rfl; have s2 := M1.out.cell 2 2 rfl rfl; have s3 := M1.out.cell 2 3 rfl rfl; have s4 := M1.out.cell 2 4 rfl rfl
  have m0 := M1.out.cell 1 0 rfl rfl; have m1 := M1.out.cell 1 1 rfl rfl; have m2 := M1.out.cell 1 2 rfl rfl; have m3 := M1.out.cell 1 3 rfl rfl; have m4 := M1.out.cell 1 4 rfl rfl
  have o0 := M1.out.cell 0 0 rfl rfl; have o1 := M1.out.cell 0 1 rfl rfl; have o2 := M1.out.cell 0 2 rfl rfl; have o3 := M1.out.cell 0 3 rfl rfl; have o4 := M1.out.cell 0 4 rfl rfl
  go_wp2_with fail
  refine (HD.out _).mono ?_
  rintro e v2 ⟨rfl, g2⟩
  clear s0 s1 s2 s3 s4 m0 m1 m2 m3 m4 o0 o1 o2 o3 o4
  have M2 := Lib.hid (((M1.out.grown g2.out).alloc 28 [.int .i64 K, .int .i64 N]).alloc 23 [.int .i64 i, .int .i64 T, .int .i64 y, .int .i64 P, .int .i64 L])
  simp only [size_alloc] at M2
  clear g2 M1
  have s0 := M2.out.cell 4 0 rfl rfl; have s1 := M2.out.cell 4 1 rfl rfl; have s2 := M2.out.cell 4 2 rfl rfl; have s3 := M2.out.cell 4 3 rfl rfl; have s4 := M2.out.cell 4 4 rfl rfl
  go_wp2_with fail
  refine (plain_any f t y p l _).mono ?_
  rintro e v3 ⟨rfl, g3⟩
  clear s0 s1 s2 s3 s4
  have M3 := Lib.hid ((M2.out.grown g3.out).alloc 35 [.int .i64 f, .int .i64 t, .int .i64 y, .int .i64 p, .int .i64 l])
  clear g3 M2
  have m0 := M3.out.cell 4 0 rfl rfl; have m1 := M3.out.cell 4 1 rfl rfl; have m2 := M3.out.cell 4 2 rfl rfl; have m3 := M3.out.cell 4 3 rfl rfl; have m4 := M3.out.cell 4 4 rfl rfl
  have o0 := M3.out.cell 3 0 rfl rfl; have o1 := M3.out.cell 3 1 rfl rfl; have o2 := M3.out.cell 3 2 rfl rfl; have o3 := M3.out.cell 3 3 rfl rfl; have o4 := M3.out.cell 3 4 rfl rfl
  go_wp2
  go_region_held3 (fun w' => w'.cell? ⟨w.heap.size + 1, 0, none⟩ = some (.int .i64 mi) ∧ w'.cell? ⟨w.heap.size + 1, 1, none⟩ = some (.int .i64 ms) ∧ w'.cell? ⟨w.heap.size + 1, 2, none⟩ = some (.int .i64 mp) ∧ w'.cell? ⟨w.heap.size + 1, 3, none⟩ = some (.int .i64 mq) ∧ w'.cell? ⟨w.heap.size + 1, 4, none⟩ = some (.bool mb) ∧ w'.cell? ⟨w.heap.size + 1 + 1, 0, none⟩ = some (.int .i64 i) ∧ w'.cell? ⟨w.heap.size + 1 + 1, 1, none⟩ = some (.int .i64 st) ∧ w'.cell? ⟨w.heap.size + 1 + 1, 2, none⟩ = some (.int .i64 pr) ∧ w'.cell? ⟨w.heap.size + 1 + 1, 3, none⟩ = some (.int .i64 q) ∧ w'.cell? ⟨w.heap.size + 1 + 1, 4, none⟩ = some (.bool b)) (go_keep) (first | (go_at_call 11; refine (side_any _ _ _ _ _ _).mono ?_; rintro e v4 ⟨rfl, g4⟩; first | (have M5 := Lib.hid (M4.out.grown (gb_trans (by repeat (first | exact gb_refl _ _ | refine gb_drewN ?_ _ | refine gb_drew ?_ | refine gb_alloc ?_ _)) g4.out)); have mb0 := M5.out.cell 4 0 rfl rfl; have mb1 := M5.out.cell 4 1 rfl rfl; have mb2 := M5.out.cell 4 2 rfl rfl; have mb3 := M5.out.cell 4 3 rfl rfl; have mb4 := M5.out.cell 4 4 rfl rfl; have ob0 := M5.out.cell 3 0 rfl rfl; have ob1 := M5.out.cell 3 1 rfl rfl; have ob2 := M5.out.cell 3 2 rfl rfl; have ob3 := M5.out.cell 3 3 rfl rfl; have ob4 := M5.out.cell 3 4 rfl rfl) | (have M4 := Lib.hid (M3.out.grown (gb_trans (by repeat (first | exact gb_refl _ _ | refine gb_drewN ?_ _ | refine gb_drew ?_ | refine gb_alloc ?_ _)) g4.out)); have ma0 := M4.out.cell 4 0 rfl rfl; have ma1 := M4.out.cell 4 1 rfl rfl; have ma2 := M4.out.cell 4 2 rfl rfl; have ma3 := M4.out.cell 4 3 rfl rfl; have ma4 := M4.out.cell 4 4 rfl rfl; have oa0 := M4.out.cell 3 0 rfl rfl; have oa1 := M4.out.cell 3 1 rfl rfl; have oa2 := M4.out.cell 3 2 rfl rfl; have oa3 := M4.out.cell 3 3 rfl rfl; have oa4 := M4.out.cell 3 4 rfl rfl)) | (go_at_call 10; refine (HR.out _ _ (M5.out.get 0 rfl)).mono ?_; rintro e v6 ⟨rfl, V, g6⟩; have M6 := Lib.hid (M5.out.change 0 rfl (gb_trans (by repeat (first | exact gb_refl _ _ | refine gb_drewN ?_ _ | refine gb_drew ?_ | refine gb_alloc ?_ _)) g6.out) V.out); have mc0 := M6.out.cell 4 0 rfl rfl; have mc1 := M6.out.cell 4 1 rfl rfl; have mc2 := M6.out.cell 4 2 rfl rfl; have mc3 := M6.out.cell 4 3 rfl rfl; have mc4 := M6.out.cell 4 4 rfl rfl; have oc0 := M6.out.cell 3 0 rfl rfl; have oc1 := M6.out.cell 3 1 rfl rfl; have oc2 := M6.out.cell 3 2 rfl rfl; have oc3 := M6.out.cell 3 3 rfl rfl; have oc4 := M6.out.cell 3 4 rfl rfl))
  clear m0 m1 m2 m3 m4 o0 o1 o2 o3 o4 ma0 ma1 ma2 ma3 ma4 oa0 oa1 oa2 oa3 oa4 mb0 mb1 mb2 mb3 mb4 ob0 ob1 ob2 ob3 ob4 mc0 mc1 mc2 mc3 mc4 oc0 oc1 oc2 oc3 oc4 M3 M4 M5 g6 V
  simp only [List.set_cons_zero] at M6
  have k0 := M6.out.cell 2 0 rfl rfl; have k1 := M6.out.cell 2 1 rfl rfl
  have x0 := M6.out.cell 1 0 rfl rfl; have x1 := M6.out.cell 1 1 rfl rfl; have x2 := M6.out.cell 1 2 rfl rfl; have x3 := M6.out.cell 1 3 rfl rfl; have x4 := M6.out.cell 1 4 rfl rfl
  have u0 := M6.out.cell 0 0 rfl rfl; have u1 := M6.out.cell 0 1 rfl rfl; have u2 := M6.out.cell 0 2 rfl rfl; have u3 := M6.out.cell 0 3 rfl rfl; have u4 := M6.out.cell 0 4 rfl rfl
  go_wp2
  go_region_held3 (fun w' => w'.cell? ⟨v2.heap.size, 0, none⟩ = some (.int .i64 K) ∧ w'.cell? ⟨v2.heap.size, 1, none⟩ = some (.int .i64 N) ∧ w'.cell? ⟨v2.heap.size + 1, 0, none⟩ = some (.int .i64 i) ∧ w'.cell? ⟨v2.heap.size + 1, 1, none⟩ = some (.int .i64 T) ∧ w'.cell? ⟨v2.heap.size + 1, 2, none⟩ = some (.int .i64 y) ∧ w'.cell? ⟨v2.heap.size + 1, 3, none⟩ = some (.int .i64 P) ∧ w'.cell? ⟨v2.heap.size + 1, 4, none⟩ = some (.int .i64 L) ∧ w'.cell? ⟨v3.heap.size, 0, none⟩ = some (.int .i64 i) ∧ w'.cell? ⟨v3.heap.size, 1, none⟩ = some (.int .i64 T) ∧ w'.cell? ⟨v3.heap.size, 2, none⟩ = some (.int .i64 y) ∧ w'.cell? ⟨v3.heap.size, 3, none⟩ = some (.int .i64 P) ∧ w'.cell? ⟨v3.heap.size, 4, none⟩ = some (.int .i64 L)) (go_keep) ((go_at_call 9; refine (plain_any i T y P L _).mono ?_; rintro e v7 ⟨rfl, g7⟩; have M7 := Lib.hid (M6.out.grown (gb_trans (by repeat (first | exact gb_refl _ _ | refine gb_drewN ?_ _ | refine gb_drew ?_ | refine gb_alloc ?_ _)) g7.out)); have ka0 := M7.out.cell 2 0 rfl rfl; have ka1 := M7.out.cell 2 1 rfl rfl; have xa0 := M7.out.cell 1 0 rfl rfl; have xa1 := M7.out.cell 1 1 rfl rfl; have xa2 := M7.out.cell 1 2 rfl rfl; have xa3 := M7.out.cell 1 3 rfl rfl; have xa4 := M7.out.cell 1 4 rfl rfl; have ua0 := M7.out.cell 0 0 rfl rfl; have ua1 := M7.out.cell 0 1 rfl rfl; have ua2 := M7.out.cell 0 2 rfl rfl; have ua3 := M7.out.cell 0 3 rfl rfl; have ua4 := M7.out.cell 0 4 rfl rfl))
  go_wp2
  go_ret
  exact ⟨rfl, M7.out.below⟩

theorem walk (z0 : Nat → Int) (z1 : Nat → Int) (y1 : Nat → Bool) (z2 : Nat → Int) (y2 : Nat → Bool) (a3 a4 : Int) (w : World) (w0 : ∀ i, i < 5 → (Lit.int .i64 (z0 i)).wf = true) (w1 : ∀ i, i < 5 → (Lit.int .i64 (z1 i)).wf = true) (w2 : ∀ i, i < 5 → (Lit.int .i64 (z2 i)).wf = true) (w3 : (Lit.int .i64 a3).wf = true) (w4 : (Lit.int .i64 a4).wf = true) :
    Calls Try.prog 3 #[.agg #[.int .i64 (z0 0), .int .i64 (z0 1), .int .i64 (z0 2), .int .i64 (z0 3), .int .i64 (z0 4)], .agg #[.int .i64 (z1 0), .int .i64 (z1 1), .int .i64 (z1 2), .int .i64 (z1 3), .bool (y1 4)], .agg #[.int .i64 (z2 0), .int .i64 (z2 1), .int .i64 (z2 2), .int .i64 (z2 3), .bool (y2 4)], .int .i64 a3, .int .i64 a4] w fun e w' => e = .returned (.bool true) ∧ Below w.heap.size w w' := by
  have := bounds_i64 (w0 1 (by omega))
  have := bounds_i64 (w0 4 (by omega))
  exact walk1 _ _ _ _ _ _ _ _ _ _ _ _ _ _ _ _ _ (by omega) (by omega) w

theorem own : ownKnob Try.prog.godebug = none := by kernel_rfl
theorem laidOut : laidOutB Try.prog = true := by kernel_rfl

/-! ### THE ROW's STEP, as the guide has it -/
set_option maxRecDepth 100000 in
theorem lifted (os : Os) (started : os.Started) (H : Type) (enc : TypeId × Value → H) :
    ReturnsInHanded {} Try.checked os 3 .any (Rows.greedyDecidesSpec.pre6 enc Try.prog Try.f3 Rows.greedyDecidesRow.domain false) (Rows.greedyDecidesSpec.post enc Try.prog Try.f3 false true false false) := by
  refine returnsInHanded_of_change (C := Try.checked) own started (by kernel_rfl) Try.func3
    (ChangeSpec.witness6 (enc := enc) (C := Try.checked) false ⟨#[], #[.agg #[.int .i64 0, .int .i64 0, .int .i64 0, .int .i64 0, .int .i64 0], .agg #[.int .i64 0, .int .i64 0, .int .i64 0, .int .i64 0, .bool false], .agg #[.int .i64 0, .int .i64 0, .int .i64 0, .int .i64 0, .bool false], .int .i64 0, .int .i64 0], []⟩ 8 (by kernel_rfl) (by kernel_rfl) (by kernel_rfl) (by kernel_rfl)) ?_
  intro W base args ds gs before hval0 hW hcnd _
  have hval : ∀ (j : Nat) t v, Try.f3.params[j]? = some t → args[j]? = some v → Value.okWide Try.prog W .any base t v := hval0
  have hW' := hW
  obtain ⟨p, q, hA0, hV, rfl, hfz, hnd⟩ := hW
  have hA : DataW.TrodAll enc Try.prog W 0 (fun _ => true) true Try.f3.params.toList args.toList ds p := hA0
  rw [Try.params3] at hA hval
  obtain ⟨v0, vs0, d0, ds0, p0, q0, hargs, rfl, rfl, h0, r0⟩ := trodAll_cons hA
  obtain ⟨v1, vs1, d1, ds1, p1, q1, rfl, rfl, rfl, h1, r1⟩ := trodAll_cons r0
  obtain ⟨v2, vs2, d2, ds2, p2, q2, rfl, rfl, rfl, h2, r2⟩ := trodAll_cons r1
  obtain ⟨v3, vs3, d3, ds3, p3, q3, rfl, rfl, rfl, h3, r3⟩ := trodAll_cons r2
  obtain ⟨v4, vs4, d4, ds4, p4, q4, rfl, rfl, rfl, h4, r4⟩ := trodAll_cons r3
  obtain ⟨rfl, rfl, rfl⟩ := trodAll_nil r4
  obtain rfl : args = #[v0, v1, v2, v3, v4] := by cases args; simp_all
  obtain ⟨rfl, rfl⟩ := trodVars_none hV
  obtain ⟨cs0, rfl, sz0⟩ := okWide_struct Try.underlying23 (hval 0 23 v0 rfl rfl)
  have k0 := h0
  have lt0 : ∀ x ∈ p0, x.block < W.heap.size := by obtain ⟨m, hm⟩ := k0; exact DataW.trod_lt m _ _ _ hm
  obtain ⟨z0, w0, rfl⟩ : ∃ z : Nat → Int, (∀ i, i < 5 → (Lit.int .i64 (z i)).wf = true) ∧ cs0 = ⟨(List.range 5).map fun i => .int .i64 (z i)⟩ := by
    obtain ⟨fuel, hf⟩ := h0
    exact isAgg_of Try.underlying23 Try.underlying3 Try.underlying2 (by kernel_rfl) (by kernel_rfl) (sz0.trans (by kernel_rfl)) (by decide) hf
  obtain ⟨cs1, rfl, sz1⟩ := okWide_struct Try.underlying25 (hval 1 25 v1 rfl rfl)
  have k1 := h1
  have lt1 : ∀ x ∈ p1, x.block < W.heap.size := by obtain ⟨m, hm⟩ := k1; exact DataW.trod_lt m _ _ _ hm
  obtain ⟨z1, y1, w1, rfl⟩ : ∃ (z : Nat → Int) (y : Nat → Bool), (∀ i, i < 5 → (Lit.int .i64 (z i)).wf = true) ∧ cs1 = ⟨(List.range 5).map (mixed (fun j => j == 4) z y)⟩ := by
    obtain ⟨fuel, hf⟩ := h1
    exact isMix_of (fun j => j == 4) Try.underlying25 Try.underlying3 Try.underlying4 (by kernel_rfl) (by kernel_rfl) (sz1.trans (by kernel_rfl)) (by decide) hf
  obtain ⟨cs2, rfl, sz2⟩ := okWide_struct Try.underlying25 (hval 2 25 v2 rfl rfl)
  have k2 := h2
  have lt2 : ∀ x ∈ p2, x.block < W.heap.size := by obtain ⟨m, hm⟩ := k2; exact DataW.trod_lt m _ _ _ hm
  obtain ⟨z2, y2, w2, rfl⟩ : ∃ (z : Nat → Int) (y : Nat → Bool), (∀ i, i < 5 → (Lit.int .i64 (z i)).wf = true) ∧ cs2 = ⟨(List.range 5).map (mixed (fun j => j == 4) z y)⟩ := by
    obtain ⟨fuel, hf⟩ := h2
    exact isMix_of (fun j => j == 4) Try.underlying25 Try.underlying3 Try.underlying4 (by kernel_rfl) (by kernel_rfl) (sz2.trans (by kernel_rfl)) (by decide) hf
  obtain ⟨a3, rfl, rfl, rfl, w3⟩ := open_int Try.underlying3 (hval 3 3 v3 rfl rfl) h3
  obtain ⟨a4, rfl, rfl, rfl, w4⟩ := open_int Try.underlying3 (hval 4 3 v4 rfl rfl) h4
  clear hA0 hval0
  refine (walk z0 z1 y1 z2 y2 a3 a4 W w0 w1 w2 w3 w4).mono fun e W' ⟨he, bel⟩ => ?_
  subst he
  exact ⟨_, rfl, _, _, _, [], _, [], hW', trodAll_mk1 (shut_bool Try.underlying4 _), (trodAll_cons_mk (Below.trod laidOut (by kernel_rfl) (of_decide_eq_true (by kernel_rfl)) k0 bel lt0) (trodAll_cons_mk (Below.trod laidOut (by kernel_rfl) (of_decide_eq_true (by kernel_rfl)) k1 bel lt1) (trodAll_cons_mk (Below.trod laidOut (by kernel_rfl) (of_decide_eq_true (by kernel_rfl)) k2 bel lt2) (trodAll_cons_mk (shut_int Try.underlying3 w3) (trodAll_cons_mk (shut_int Try.underlying3 w4) trodAll_mk0))))), rfl, bel.frame _, fun h => by cases h⟩

theorem over : Rows.greedyDecidesRow.holds Try.pinned (OpenSpec.ofChange Rows.greedyDecidesSpec) :=
  OpenClaim.holds_of_wide 3 Try.f3 rfl rfl rfl rfl rfl rfl rfl ⟨rfl, rfl, rfl, rfl, rfl⟩ rfl rfl rfl rfl rfl (by kernel_rfl) Try.func3 (by kernel_rfl)
    (of_decide_eq_true (by kernel_rfl)) (by unfold Func.isWrapper; first | (rw [if_pos (by decide +kernel)]; kernel_rfl) | (rw [if_neg (by decide +kernel)]; exact ⟨rfl, rfl⟩))
    (fun os started H enc _ => lifted os started H enc)

theorem proved : Rows.GreedyDecidesSaid := over
#print axioms proved
end Go.Proofs.Ytedkojcogccgcaa.greedyDecides
