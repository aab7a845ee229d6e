/-
  GateWhat: what is done by whatever is seen, and the state behind it, are the document's; for any state, any sight, any stamp, any wait, troubled or not.
  Conditions: none.
-/
import Derived.Test.YtelapiabniabkaaRows
import Derived.Test.YtelapiabniabkaaOpen
import Derived.Test.YtelapiabniabkaaOpenB
import Derived.Test.YtelapiabniabkaaGtC
namespace Go.Proofs.Ytelapiabniabkaa.gateWhat
open Go.ChangeShapes Go.WideShapes Go.ChangeAt Go.RowKit Go.Proofs.Ytelapiabniabkaa.base Go.Proofs.Ytelapiabniabkaa.ch Go.Proofs.Ytelapiabniabkaa.gate
set_option linter.unusedVariables false

theorem walk1 (f t y p l : Int) (xb : Bool) (xs xt q st n : Int) (tr : Bool) (lo : -9223372036854775808 ≤ t) (lo2 : -9223372036854775808 ≤ l) (w : World) :
    Calls Try.prog 4 #[.agg #[.int .i64 f, .int .i64 t, .int .i64 y, .int .i64 p, .int .i64 l], .agg #[.bool xb, .int .i64 xs, .int .i64 xt, .int .i64 q], .int .i64 st, .int .i64 n, .bool tr] w fun e w' => e = .returned (.bool true) ∧ Below w.heap.size w w' := by
  have D := fun u => what_any f t y p l xb xs xt q st n tr lo lo2 u
  have E := fun (b : Nat) (u : World) (h : RS u b f t y p l) => refwhat_any b f t y p l xb xs xt q st n tr lo lo2 u h
  generalize wK xb xs st tr n (lL (mP f xs p q) q (mL f xs l)) = K at D E
  generalize wI xb xs st xs f = F at D E
  generalize wI xb xs st (mT f xs t) t = T at D E
  generalize wI xb xs st q p = P at D E
  generalize wI xb xs st (lL (mP f xs p q) q (mL f xs l)) l = L at D E
  have HD := Lib.hid D
  have HE := Lib.hid E
  clear D E lo lo2
  go_enter Try.func4, Try.ntmps4
  go_wp2_with fail
  refine (alive_any _).mono ?_
  rintro e v1 ⟨rfl, g1⟩
  have M1 := Lib.hid ((((Own.start w).alloc 45 [.int .i64 f, .int .i64 t, .int .i64 y, .int .i64 p, .int .i64 l]).alloc 36 [.bool xb, .int .i64 xs, .int .i64 xt, .int .i64 q]).grown g1.out)
  simp only [size_alloc] at M1
  clear g1
  have s0 := M1.out.cell 1 0 rfl rfl; have s1 := M1.out.cell 1 1 rfl rfl; have s2 := M1.out.cell 1 2 rfl rfl; have s3 := M1.out.cell 1 3 rfl rfl; have s4 := M1.out.cell 1 4 rfl rfl
  have x0 := M1.out.cell 0 0 rfl rfl; have x1 := M1.out.cell 0 1 rfl rfl; have x2 := M1.out.cell 0 2 rfl rfl; have x3 := M1.out.cell 0 3 rfl rfl
  go_wp2_with fail
  refine (HD.out _).mono ?_
  rintro e v2 ⟨rfl, g2⟩
  clear s0 s1 s2 s3 s4 x0 x1 x2 x3
  have M2 := Lib.hid ((M1.out.grown g2.out).alloc 45 [.int .i64 F, .int .i64 T, .int .i64 y, .int .i64 P, .int .i64 L])
  clear g2 M1
  have s0 := M2.out.cell 2 0 rfl rfl; have s1 := M2.out.cell 2 1 rfl rfl; have s2 := M2.out.cell 2 2 rfl rfl; have s3 := M2.out.cell 2 3 rfl rfl; have s4 := M2.out.cell 2 4 rfl rfl
  go_wp2_with fail
  refine (plain_any f t y p l _).mono ?_
  rintro e v3 ⟨rfl, g3⟩
  clear s0 s1 s2 s3 s4
  have M3 := Lib.hid ((M2.out.grown g3.out).alloc 48 [.int .i64 f, .int .i64 t, .int .i64 y, .int .i64 p, .int .i64 l])
  clear g3 M2
  have x0 := M3.out.cell 2 0 rfl rfl; have x1 := M3.out.cell 2 1 rfl rfl; have x2 := M3.out.cell 2 2 rfl rfl; have x3 := M3.out.cell 2 3 rfl rfl
  go_wp2_with fail
  refine (HE.out _ _ (M3.out.get 0 rfl)).mono ?_
  rintro e v4 ⟨rfl, V, g4⟩
  have M4 := Lib.hid (M3.out.change 0 rfl g4.out V.out)
  simp only [List.set_cons_zero] at M4
  clear V g4 M3 x0 x1 x2 x3
  have k0 := M4.out.cell 1 0 rfl rfl; have k1 := M4.out.cell 1 1 rfl rfl; have k2 := M4.out.cell 1 2 rfl rfl; have k3 := M4.out.cell 1 3 rfl rfl; have k4 := M4.out.cell 1 4 rfl rfl
  have u0 := M4.out.cell 0 0 rfl rfl; have u1 := M4.out.cell 0 1 rfl rfl; have u2 := M4.out.cell 0 2 rfl rfl; have u3 := M4.out.cell 0 3 rfl rfl; have u4 := M4.out.cell 0 4 rfl rfl
  go_wp2
  go_region_held3 (fun w' => w'.cell? ⟨v2.heap.size, 0, none⟩ = some (.int .i64 F) ∧ w'.cell? ⟨v2.heap.size, 1, none⟩ = some (.int .i64 T) ∧ w'.cell? ⟨v2.heap.size, 2, none⟩ = some (.int .i64 y) ∧ w'.cell? ⟨v2.heap.size, 3, none⟩ = some (.int .i64 P) ∧ w'.cell? ⟨v2.heap.size, 4, none⟩ = some (.int .i64 L) ∧ w'.cell? ⟨v3.heap.size, 0, none⟩ = some (.int .i64 F) ∧ w'.cell? ⟨v3.heap.size, 1, none⟩ = some (.int .i64 T) ∧ w'.cell? ⟨v3.heap.size, 2, none⟩ = some (.int .i64 y) ∧ w'.cell? ⟨v3.heap.size, 3, none⟩ = some (.int .i64 P) ∧ w'.cell? ⟨v3.heap.size, 4, none⟩ = some (.int .i64 L)) (go_keep) ((go_at_call 20; refine (plain_any F T y P L _).mono ?_; rintro e v7 ⟨rfl, g7⟩; have M7 := Lib.hid (M4.out.grown (gb_trans (by repeat (first | exact gb_refl _ _ | refine gb_drewN ?_ _ | refine gb_drew ?_ | refine gb_alloc ?_ _)) g7.out)); have ka0 := M7.out.cell 1 0 rfl rfl; have ka1 := M7.out.cell 1 1 rfl rfl; have ka2 := M7.out.cell 1 2 rfl rfl; have ka3 := M7.out.cell 1 3 rfl rfl; have ka4 := M7.out.cell 1 4 rfl rfl; have ua0 := M7.out.cell 0 0 rfl rfl; have ua1 := M7.out.cell 0 1 rfl rfl; have ua2 := M7.out.cell 0 2 rfl rfl; have ua3 := M7.out.cell 0 3 rfl rfl; have ua4 := M7.out.cell 0 4 rfl rfl))
  go_wp2
  go_ret
  exact ⟨rfl, M7.out.below⟩

theorem walk (z0 : Nat → Int) (z1 : Nat → Int) (y1 : Nat → Bool) (a2 a3 : Int) (a4 : Bool) (w : World) (w0 : ∀ i, i < 5 → (Lit.int .i64 (z0 i)).wf = true) (w1 : ∀ i, i < 4 → (Lit.int .i64 (z1 i)).wf = true) (w2 : (Lit.int .i64 a2).wf = true) (w3 : (Lit.int .i64 a3).wf = true) :
    Calls Try.prog 4 #[.agg #[.int .i64 (z0 0), .int .i64 (z0 1), .int .i64 (z0 2), .int .i64 (z0 3), .int .i64 (z0 4)], .agg #[.bool (y1 0), .int .i64 (z1 1), .int .i64 (z1 2), .int .i64 (z1 3)], .int .i64 a2, .int .i64 a3, .bool a4] w fun e w' => e = .returned (.bool true) ∧ Below w.heap.size w w' := by
  have := bounds_i64 (w0 1 (by omega))
  have := bounds_i64 (w0 4 (by omega))
  exact walk1 _ _ _ _ _ _ _ _ _ _ _ _ (by omega) (by omega) w

theorem own : ownKnob Try.prog.godebug = none := by kernel_rfl
theorem laidOut : laidOutB Try.prog = true := by kernel_rfl

/-! ### THE ROW's STEP, as the guide has it -/
set_option maxRecDepth 100000 in
theorem lifted (os : Os) (started : os.Started) (H : Type) (enc : TypeId × Value → H) :
    ReturnsInHanded {} Try.checked os 4 .any (Rows.gateWhatSpec.pre6 enc Try.prog Try.f4 Rows.gateWhatRow.domain false) (Rows.gateWhatSpec.post enc Try.prog Try.f4 false true false false) := by
  refine returnsInHanded_of_change (C := Try.checked) own started (by kernel_rfl) Try.func4
    (ChangeSpec.witness6 (enc := enc) (C := Try.checked) false ⟨#[], #[.agg #[.int .i64 0, .int .i64 0, .int .i64 0, .int .i64 0, .int .i64 0], .agg #[.bool false, .int .i64 0, .int .i64 0, .int .i64 0], .int .i64 0, .int .i64 0, .bool false], []⟩ 8 (by kernel_rfl) (by kernel_rfl) (by kernel_rfl) (by kernel_rfl)) ?_
  intro W base args ds gs before hval0 hW hcnd _
  have hval : ∀ (j : Nat) t v, Try.f4.params[j]? = some t → args[j]? = some v → Value.okWide Try.prog W .any base t v := hval0
  have hW' := hW
  obtain ⟨p, q, hA0, hV, rfl, hfz, hnd⟩ := hW
  have hA : DataW.TrodAll enc Try.prog W 0 (fun _ => true) true Try.f4.params.toList args.toList ds p := hA0
  rw [Try.params4] at hA hval
  obtain ⟨v0, vs0, d0, ds0, p0, q0, hargs, rfl, rfl, h0, r0⟩ := trodAll_cons hA
  obtain ⟨v1, vs1, d1, ds1, p1, q1, rfl, rfl, rfl, h1, r1⟩ := trodAll_cons r0
  obtain ⟨v2, vs2, d2, ds2, p2, q2, rfl, rfl, rfl, h2, r2⟩ := trodAll_cons r1
  obtain ⟨v3, vs3, d3, ds3, p3, q3, rfl, rfl, rfl, h3, r3⟩ := trodAll_cons r2
  obtain ⟨v4, vs4, d4, ds4, p4, q4, rfl, rfl, rfl, h4, r4⟩ := trodAll_cons r3
  obtain ⟨rfl, rfl, rfl⟩ := trodAll_nil r4
  obtain rfl : args = #[v0, v1, v2, v3, v4] := by cases args; simp_all
  obtain ⟨rfl, rfl⟩ := trodVars_none hV
  obtain ⟨cs0, rfl, sz0⟩ := okWide_struct Try.underlying45 (hval 0 45 v0 rfl rfl)
  have k0 := h0
  have lt0 : ∀ x ∈ p0, x.block < W.heap.size := by obtain ⟨m, hm⟩ := k0; exact DataW.trod_lt m _ _ _ hm
  obtain ⟨z0, w0, rfl⟩ : ∃ z : Nat → Int, (∀ i, i < 5 → (Lit.int .i64 (z i)).wf = true) ∧ cs0 = ⟨(List.range 5).map fun i => .int .i64 (z i)⟩ := by
    obtain ⟨fuel, hf⟩ := h0
    exact isAgg_of Try.underlying45 Try.underlying3 Try.underlying2 (by kernel_rfl) (by kernel_rfl) (sz0.trans (by kernel_rfl)) (by decide) hf
  obtain ⟨cs1, rfl, sz1⟩ := okWide_struct Try.underlying36 (hval 1 36 v1 rfl rfl)
  have k1 := h1
  have lt1 : ∀ x ∈ p1, x.block < W.heap.size := by obtain ⟨m, hm⟩ := k1; exact DataW.trod_lt m _ _ _ hm
  obtain ⟨z1, y1, w1, rfl⟩ : ∃ (z : Nat → Int) (y : Nat → Bool), (∀ i, i < 4 → (Lit.int .i64 (z i)).wf = true) ∧ cs1 = ⟨(List.range 4).map (mixed (fun j => j == 0) z y)⟩ := by
    obtain ⟨fuel, hf⟩ := h1
    exact isMix_of (fun j => j == 0) Try.underlying36 Try.underlying3 Try.underlying4 (by kernel_rfl) (by kernel_rfl) (sz1.trans (by kernel_rfl)) (by decide) hf
  obtain ⟨a2, rfl, rfl, rfl, w2⟩ := open_int Try.underlying3 (hval 2 3 v2 rfl rfl) h2
  obtain ⟨a3, rfl, rfl, rfl, w3⟩ := open_int Try.underlying3 (hval 3 3 v3 rfl rfl) h3
  obtain ⟨a4, rfl, rfl, rfl⟩ := open_bool Try.underlying4 (hval 4 4 v4 rfl rfl) h4
  clear hA0 hval0
  refine (walk z0 z1 y1 a2 a3 a4 W w0 w1 w2 w3).mono fun e W' ⟨he, bel⟩ => ?_
  subst he
  exact ⟨_, rfl, _, _, _, [], _, [], hW', trodAll_mk1 (shut_bool Try.underlying4 _), (trodAll_cons_mk (Below.trod laidOut (by kernel_rfl) (of_decide_eq_true (by kernel_rfl)) k0 bel lt0) (trodAll_cons_mk (Below.trod laidOut (by kernel_rfl) (of_decide_eq_true (by kernel_rfl)) k1 bel lt1) (trodAll_cons_mk (shut_int Try.underlying3 w2) (trodAll_cons_mk (shut_int Try.underlying3 w3) (trodAll_cons_mk (shut_bool Try.underlying4 _) trodAll_mk0))))), rfl, bel.frame _, fun h => by cases h⟩

theorem over : Rows.gateWhatRow.holds Try.pinned (OpenSpec.ofChange Rows.gateWhatSpec) :=
  OpenClaim.holds_of_wide 4 Try.f4 rfl rfl rfl rfl rfl rfl rfl ⟨rfl, rfl, rfl, rfl, rfl⟩ rfl rfl rfl rfl rfl (by kernel_rfl) Try.func4 (by kernel_rfl)
    (of_decide_eq_true (by kernel_rfl)) (by unfold Func.isWrapper; first | (rw [if_pos (by decide +kernel)]; kernel_rfl) | (rw [if_neg (by decide +kernel)]; exact ⟨rfl, rfl⟩))
    (fun os started H enc _ => lifted os started H enc)

theorem proved : Rows.GateWhatSaid := over
#print axioms proved
end Go.Proofs.Ytelapiabniabkaa.gateWhat
