/-
  CellsResolve: what a record resolves to, by a status, is what the document says (of a locator the new version, if it is nobody's, or its owner committed, else the old one; 0 of any other record); for any record and any number as a status.
  Conditions: none.
-/
import Derived.Test.YticlmcoegcfanaaRows
import Derived.Test.YticlmcoegcfanaaOpen
import Derived.Test.YticlmcoegcfanaaMade04
namespace Go.Proofs.Yticlmcoegcfanaa.cellsResolve
open Go.ChangeShapes Go.WideShapes Go.ChangeAt Go.RowKit Go.Proofs.Yticlmcoegcfanaa.base Go.Proofs.Yticlmcoegcfanaa.ar Go.Proofs.Yticlmcoegcfanaa.rf Go.Proofs.Yticlmcoegcfanaa.ce
set_option linter.unusedVariables false

set_option maxRecDepth 100000 in
set_option maxHeartbeats 1000000 in
theorem walk (z0 : Nat → Int) (a1 : Int) (w : World) (w0 : ∀ i, i < 9 → (Lit.int .i64 (z0 i)).wf = true) (w1 : (Lit.int .i64 a1).wf = true) :
    Calls Try.prog 4 #[.agg #[.int .i64 (z0 0), .int .i64 (z0 1), .int .i64 (z0 2), .int .i64 (z0 3), .int .i64 (z0 4), .int .i64 (z0 5), .int .i64 (z0 6), .int .i64 (z0 7), .int .i64 (z0 8)], .int .i64 a1] w fun e w' => e = .returned (.bool true) ∧ Below w.heap.size w w' := by
  clear w0 w1
  go_enter Try.func4, Try.ntmps4
  go_wp2_with fail
  refine (alive_any _).mono ?_
  rintro e v1 ⟨rfl, B1'⟩
  have x0 : v1.cell? ⟨w.heap.size, 0, none⟩ = some (.int .i64 (z0 0)) := (B1'.out.cell (p := ⟨w.heap.size, 0, none⟩) (by simp)).trans (by simp [go_sem])
  have x1 : v1.cell? ⟨w.heap.size, 1, none⟩ = some (.int .i64 (z0 1)) := (B1'.out.cell (p := ⟨w.heap.size, 1, none⟩) (by simp)).trans (by simp [go_sem])
  have x2 : v1.cell? ⟨w.heap.size, 2, none⟩ = some (.int .i64 (z0 2)) := (B1'.out.cell (p := ⟨w.heap.size, 2, none⟩) (by simp)).trans (by simp [go_sem])
  have x3 : v1.cell? ⟨w.heap.size, 3, none⟩ = some (.int .i64 (z0 3)) := (B1'.out.cell (p := ⟨w.heap.size, 3, none⟩) (by simp)).trans (by simp [go_sem])
  have x4 : v1.cell? ⟨w.heap.size, 4, none⟩ = some (.int .i64 (z0 4)) := (B1'.out.cell (p := ⟨w.heap.size, 4, none⟩) (by simp)).trans (by simp [go_sem])
  have x5 : v1.cell? ⟨w.heap.size, 5, none⟩ = some (.int .i64 (z0 5)) := (B1'.out.cell (p := ⟨w.heap.size, 5, none⟩) (by simp)).trans (by simp [go_sem])
  have x6 : v1.cell? ⟨w.heap.size, 6, none⟩ = some (.int .i64 (z0 6)) := (B1'.out.cell (p := ⟨w.heap.size, 6, none⟩) (by simp)).trans (by simp [go_sem])
  have x7 : v1.cell? ⟨w.heap.size, 7, none⟩ = some (.int .i64 (z0 7)) := (B1'.out.cell (p := ⟨w.heap.size, 7, none⟩) (by simp)).trans (by simp [go_sem])
  have x8 : v1.cell? ⟨w.heap.size, 8, none⟩ = some (.int .i64 (z0 8)) := (B1'.out.cell (p := ⟨w.heap.size, 8, none⟩) (by simp)).trans (by simp [go_sem])
  have B1 := Lib.hid ((gb_below (gb_alloc (gb_refl w none) (.cells #[.int .i64 (z0 0), .int .i64 (z0 1), .int .i64 (z0 2), .int .i64 (z0 3), .int .i64 (z0 4), .int .i64 (z0 5), .int .i64 (z0 6), .int .i64 (z0 7), .int .i64 (z0 8)] 45))).trans (bl_weak B1'.out (by simp)))
  clear B1'
  go_wp2_with fail
  go_region_held3 (fun w' => w'.cell? ⟨w.heap.size, 0, none⟩ = some (.int .i64 (z0 0)) ∧ w'.cell? ⟨w.heap.size, 1, none⟩ = some (.int .i64 (z0 1)) ∧ w'.cell? ⟨w.heap.size, 2, none⟩ = some (.int .i64 (z0 2)) ∧ w'.cell? ⟨w.heap.size, 3, none⟩ = some (.int .i64 (z0 3)) ∧ w'.cell? ⟨w.heap.size, 4, none⟩ = some (.int .i64 (z0 4)) ∧ w'.cell? ⟨w.heap.size, 5, none⟩ = some (.int .i64 (z0 5)) ∧ w'.cell? ⟨w.heap.size, 6, none⟩ = some (.int .i64 (z0 6)) ∧ w'.cell? ⟨w.heap.size, 7, none⟩ = some (.int .i64 (z0 7)) ∧ w'.cell? ⟨w.heap.size, 8, none⟩ = some (.int .i64 (z0 8))) (go_keep) (first | (go_at_call 24; refine (resolve_any ⟨z0 0, z0 1, z0 2, z0 3, z0 4, z0 5, z0 6, z0 7, z0 8⟩ a1 _).mono ?_; rintro e v2 ⟨rfl, g2⟩; have y0 := g2.out.cell (a := ⟨w.heap.size, 0, none⟩) x0 (by simp); have y1 := g2.out.cell (a := ⟨w.heap.size, 1, none⟩) x1 (by simp); have y2 := g2.out.cell (a := ⟨w.heap.size, 2, none⟩) x2 (by simp); have y3 := g2.out.cell (a := ⟨w.heap.size, 3, none⟩) x3 (by simp); have y4 := g2.out.cell (a := ⟨w.heap.size, 4, none⟩) x4 (by simp); have y5 := g2.out.cell (a := ⟨w.heap.size, 5, none⟩) x5 (by simp); have y6 := g2.out.cell (a := ⟨w.heap.size, 6, none⟩) x6 (by simp); have y7 := g2.out.cell (a := ⟨w.heap.size, 7, none⟩) x7 (by simp); have y8 := g2.out.cell (a := ⟨w.heap.size, 8, none⟩) x8 (by simp)) | (go_at_call 25; refine (ref_resolve ⟨z0 0, z0 1, z0 2, z0 3, z0 4, z0 5, z0 6, z0 7, z0 8⟩ a1 _).mono ?_; rintro e v3 ⟨rfl, g3⟩; have u0 := g3.out.cell (a := ⟨w.heap.size, 0, none⟩) y0 (by simp); have u1 := g3.out.cell (a := ⟨w.heap.size, 1, none⟩) y1 (by simp); have u2 := g3.out.cell (a := ⟨w.heap.size, 2, none⟩) y2 (by simp); have u3 := g3.out.cell (a := ⟨w.heap.size, 3, none⟩) y3 (by simp); have u4 := g3.out.cell (a := ⟨w.heap.size, 4, none⟩) y4 (by simp); have u5 := g3.out.cell (a := ⟨w.heap.size, 5, none⟩) y5 (by simp); have u6 := g3.out.cell (a := ⟨w.heap.size, 6, none⟩) y6 (by simp); have u7 := g3.out.cell (a := ⟨w.heap.size, 7, none⟩) y7 (by simp); have u8 := g3.out.cell (a := ⟨w.heap.size, 8, none⟩) y8 (by simp)))
  go_wp2
  go_ret
  exact ⟨by simp, bl_none (bl_none B1.out.drew g2.out) g3.out⟩

theorem own : ownKnob Try.prog.godebug = none := by kernel_rfl
theorem laidOut : laidOutB Try.prog = true := by kernel_rfl

/-! ### THE ROW's STEP, as the guide has it -/
set_option maxRecDepth 100000 in
theorem lifted (os : Os) (started : os.Started) (H : Type) (enc : TypeId × Value → H) :
    ReturnsInHanded {} Try.checked os 4 .any (Rows.cellsResolveSpec.pre6 enc Try.prog Try.f4 Rows.cellsResolveRow.domain false) (Rows.cellsResolveSpec.post enc Try.prog Try.f4 false true false false) := by
  refine returnsInHanded_of_change (C := Try.checked) own started (by kernel_rfl) Try.func4
    (ChangeSpec.witness6 (enc := enc) (C := Try.checked) false ⟨#[], #[.agg #[.int .i64 0, .int .i64 0, .int .i64 0, .int .i64 0, .int .i64 0, .int .i64 0, .int .i64 0, .int .i64 0, .int .i64 0], .int .i64 0], []⟩ 8 (by kernel_rfl) (by kernel_rfl) (by kernel_rfl) (by kernel_rfl)) ?_
  intro W base args ds gs before hval0 hW hcnd _
  have hval : ∀ (j : Nat) t v, Try.f4.params[j]? = some t → args[j]? = some v → Value.okWide Try.prog W .any base t v := hval0
  have hW' := hW
  obtain ⟨p, q, hA0, hV, rfl, hfz, hnd⟩ := hW
  have hA : DataW.TrodAll enc Try.prog W 0 (fun _ => true) true Try.f4.params.toList args.toList ds p := hA0
  rw [Try.params4] at hA hval
  obtain ⟨v0, vs0, d0, ds0, p0, q0, hargs, rfl, rfl, h0, r0⟩ := trodAll_cons hA
  obtain ⟨v1, vs1, d1, ds1, p1, q1, rfl, rfl, rfl, h1, r1⟩ := trodAll_cons r0
  obtain ⟨rfl, rfl, rfl⟩ := trodAll_nil r1
  obtain rfl : args = #[v0, v1] := by cases args; simp_all
  obtain ⟨rfl, rfl⟩ := trodVars_none hV
  obtain ⟨cs0, rfl, sz0⟩ := okWide_struct Try.underlying45 (hval 0 45 v0 rfl rfl)
  have k0 := h0
  have lt0 : ∀ x ∈ p0, x.block < W.heap.size := by obtain ⟨m, hm⟩ := k0; exact DataW.trod_lt m _ _ _ hm
  obtain ⟨z0, w0, rfl⟩ : ∃ z : Nat → Int, (∀ i, i < 9 → (Lit.int .i64 (z i)).wf = true) ∧ cs0 = ⟨(List.range 9).map fun i => .int .i64 (z i)⟩ := by
    obtain ⟨fuel, hf⟩ := h0
    exact isAgg_of Try.underlying45 Try.underlying3 Try.underlying2 (by kernel_rfl) (by kernel_rfl) (sz0.trans (by kernel_rfl)) (by decide) hf
  obtain ⟨a1, rfl, rfl, rfl, w1⟩ := open_int Try.underlying3 (hval 1 3 v1 rfl rfl) h1
  clear hA0 hval0
  refine (walk z0 a1 W w0 w1).mono fun e W' ⟨he, bel⟩ => ?_
  subst he
  exact ⟨_, rfl, _, _, _, [], _, [], hW', trodAll_mk1 (shut_bool Try.underlying4 _), (trodAll_cons_mk (Below.trod laidOut (by kernel_rfl) (of_decide_eq_true (by kernel_rfl)) k0 bel lt0) (trodAll_cons_mk (shut_int Try.underlying3 w1) trodAll_mk0)), rfl, bel.frame _, fun h => by cases h⟩

theorem over : Rows.cellsResolveRow.holds Try.pinned (OpenSpec.ofChange Rows.cellsResolveSpec) :=
  OpenClaim.holds_of_wide 4 Try.f4 rfl rfl rfl rfl rfl rfl rfl ⟨rfl, rfl, rfl, rfl, rfl⟩ rfl rfl rfl rfl rfl (by kernel_rfl) Try.func4 (by kernel_rfl)
    (of_decide_eq_true (by kernel_rfl)) (by unfold Func.isWrapper; first | (rw [if_pos (by decide +kernel)]; kernel_rfl) | (rw [if_neg (by decide +kernel)]; exact ⟨rfl, rfl⟩))
    (fun os started H enc _ => lifted os started H enc)

theorem proved : Rows.CellsResolveSaid := over
#print axioms proved
end Go.Proofs.Yticlmcoegcfanaa.cellsResolve
