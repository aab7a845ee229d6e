/-
  ChoiceMet: the state behind any foe that was met, and behind a look at any pulse, and whether that stands, are the document's; for any state, any side, any pulse, and any number of steps to wait.
  Conditions: none.
-/
import Derived.Test.YtgnnlgadbkmfeaaRows
import Derived.Test.YtgnnlgadbkmfeaaOpen
import Derived.Test.YtgnnlgadbkmfeaaOpenB
import Derived.Test.YtgnnlgadbkmfeaaRef05
namespace Go.Proofs.Ytgnnlgadbkmfeaa.choiceMet
open Go.ChangeShapes Go.WideShapes Go.ChangeAt Go.RowKit Go.Proofs.Ytgnnlgadbkmfeaa.base Go.Proofs.Ytgnnlgadbkmfeaa.ch
set_option linter.unusedVariables false

set_option maxHeartbeats 2000000 in
theorem walk1 (f t y p l i st pr q : Int) (b : Bool) (a2 a3 : Int) (lt : -9223372036854775808 ≤ t) (ll : -9223372036854775808 ≤ l) (w : World) :
    Calls Try.prog 3 #[.agg #[.int .i64 f, .int .i64 t, .int .i64 y, .int .i64 p, .int .i64 l], .agg #[.int .i64 i, .int .i64 st, .int .i64 pr, .int .i64 q, .bool b], .int .i64 a2, .int .i64 a3] w fun e w' => e = .returned (.bool true) ∧ Below w.heap.size w w' := by
  go_enter Try.func3, Try.ntmps3
  go_wp2_with fail
  refine (alive_any _).mono ?_
  rintro e v1 ⟨rfl, g1⟩
  have S1 := Lib.hid (((Blk.made w 23 #[.int .i64 f, .int .i64 t, .int .i64 y, .int .i64 p, .int .i64 l]).alloc _).grown g1.out (by simp))
  have D1 : Hid (Blk 25 v1 (w.heap.size + 1) #[.int .i64 i, .int .i64 st, .int .i64 pr, .int .i64 q, .bool b]) := by
    have := (Blk.made (w.alloc (.cells #[.int .i64 f, .int .i64 t, .int .i64 y, .int .i64 p, .int .i64 l] 23)) 25 #[.int .i64 i, .int .i64 st, .int .i64 pr, .int .i64 q, .bool b]).grown g1.out (by simp)
    exact (by simpa using this : Blk 25 v1 (w.heap.size + 1) #[.int .i64 i, .int .i64 st, .int .i64 pr, .int .i64 q, .bool b])
  have B1 := Lib.hid (gb_trans (gb_alloc (gb_alloc (gb_refl _ _) _) _) g1.out)
  clear g1
  have c0 := S1.out.cell 0
  have c1 := S1.out.cell 1
  have c2 := S1.out.cell 2
  have c3 := S1.out.cell 3
  have c4 := S1.out.cell 4
  go_wp2_with fail
  refine (plain_any f t y p l _).mono ?_
  rintro e v2 ⟨rfl, g2⟩
  clear c0 c1 c2 c3 c4
  have S2 := Lib.hid ((S1.out.grown g2.out (by simp)).alloc (.cells #[.int .i64 f, .int .i64 t, .int .i64 y, .int .i64 p, .int .i64 l] 27))
  have D2 := Lib.hid ((D1.out.grown g2.out (by simp)).alloc (.cells #[.int .i64 f, .int .i64 t, .int .i64 y, .int .i64 p, .int .i64 l] 27))
  have V2 : Hid (RS _ v2.heap.size f t y p l) := Blk.made v2 27 #[.int .i64 f, .int .i64 t, .int .i64 y, .int .i64 p, .int .i64 l]
  have B2 := Lib.hid (gb_alloc (gb_trans B1.out g2.out) (.cells #[.int .i64 f, .int .i64 t, .int .i64 y, .int .i64 p, .int .i64 l] 27))
  have n2 := Lib.hid (show w.heap.size ≤ v2.heap.size from (gb_trans B1.out g2.out).size)
  have m2 := Lib.hid (show w.heap.size + 1 < v2.heap.size from Nat.lt_of_lt_of_le D1.out.lt g2.out.size)
  clear g2 S1 D1 B1
  have c0 := S2.out.cell 0
  have c1 := S2.out.cell 1
  have c2 := S2.out.cell 2
  have c3 := S2.out.cell 3
  have c4 := S2.out.cell 4
  have d0 := D2.out.cell 0
  have d1 := D2.out.cell 1
  have d2 := D2.out.cell 2
  have d3 := D2.out.cell 3
  have d4 := D2.out.cell 4
  go_wp2_with fail
  refine (met_any f t y p l i st pr q b lt _).mono ?_
  rintro e v3 ⟨rfl, g3⟩
  clear c0 c1 c2 c3 c4 d0 d1 d2 d3 d4
  have D3 := Lib.hid ((D2.out.grown g3.out (by simp)).alloc (.cells #[.int .i64 i, .int .i64 (mT f i t), .int .i64 y, .int .i64 (mP f i p q), .int .i64 (mL f i l)] 23))
  have V3 := Lib.hid ((V2.out.grown g3.out (by simp)).alloc (.cells #[.int .i64 i, .int .i64 (mT f i t), .int .i64 y, .int .i64 (mP f i p q), .int .i64 (mL f i l)] 23))
  have X3 := Lib.hid (Blk.made v3 23 #[.int .i64 i, .int .i64 (mT f i t), .int .i64 y, .int .i64 (mP f i p q), .int .i64 (mL f i l)])
  have B3 := Lib.hid (gb_alloc (gb_trans B2.out g3.out) (.cells #[.int .i64 i, .int .i64 (mT f i t), .int .i64 y, .int .i64 (mP f i p q), .int .i64 (mL f i l)] 23))
  have m3 := Lib.hid (show v2.heap.size < v3.heap.size from Nat.lt_of_lt_of_le V2.out.lt g3.out.size)
  clear g3 S2 D2 V2 B2
  have d0 := D3.out.cell 0
  have d3 := D3.out.cell 3
  go_wp2_with fail
  refine (refmet_any v2.heap.size f t y p l i q lt _ V3.out).mono ?_
  rintro e v4 ⟨rfl, V4, g4⟩
  clear d0 d3
  have X4 := Lib.hid (X3.out.grown g4.out (by have := m3.out; simp; omega))
  have B4 := Lib.hid (gb_over B3.out g4.out n2.out)
  clear g4 V3 X3 D3 B3
  have x0 : v4.cell? ⟨v3.heap.size, 0, none⟩ = some (.int .i64 i) := X4.out.cell 0
  have x1 : v4.cell? ⟨v3.heap.size, 1, none⟩ = some (.int .i64 (mT f i t)) := X4.out.cell 1
  have x2 : v4.cell? ⟨v3.heap.size, 2, none⟩ = some (.int .i64 y) := X4.out.cell 2
  have x3 : v4.cell? ⟨v3.heap.size, 3, none⟩ = some (.int .i64 (mP f i p q)) := X4.out.cell 3
  have x4 : v4.cell? ⟨v3.heap.size, 4, none⟩ = some (.int .i64 (mL f i l)) := X4.out.cell 4
  have u0 : v4.cell? ⟨v2.heap.size, 0, none⟩ = some (.int .i64 i) := V4.out.cell 0
  have u1 : v4.cell? ⟨v2.heap.size, 1, none⟩ = some (.int .i64 (mT f i t)) := V4.out.cell 1
  have u2 : v4.cell? ⟨v2.heap.size, 2, none⟩ = some (.int .i64 y) := V4.out.cell 2
  have u3 : v4.cell? ⟨v2.heap.size, 3, none⟩ = some (.int .i64 (mP f i p q)) := V4.out.cell 3
  have u4 : v4.cell? ⟨v2.heap.size, 4, none⟩ = some (.int .i64 (mL f i l)) := V4.out.cell 4
  go_wp2
  go_region_held3 (fun w' => w'.cell? ⟨v3.heap.size, 0, none⟩ = some (.int .i64 i) ∧ w'.cell? ⟨v3.heap.size, 1, none⟩ = some (.int .i64 (mT f i t)) ∧ w'.cell? ⟨v3.heap.size, 2, none⟩ = some (.int .i64 y) ∧ w'.cell? ⟨v3.heap.size, 3, none⟩ = some (.int .i64 (mP f i p q)) ∧ w'.cell? ⟨v3.heap.size, 4, none⟩ = some (.int .i64 (mL f i l)) ∧ w'.cell? ⟨v2.heap.size, 0, none⟩ = some (.int .i64 i) ∧ w'.cell? ⟨v2.heap.size, 1, none⟩ = some (.int .i64 (mT f i t)) ∧ w'.cell? ⟨v2.heap.size, 2, none⟩ = some (.int .i64 y) ∧ w'.cell? ⟨v2.heap.size, 3, none⟩ = some (.int .i64 (mP f i p q)) ∧ w'.cell? ⟨v2.heap.size, 4, none⟩ = some (.int .i64 (mL f i l))) (go_keep) ((go_at_call 8; refine (plain_any i (mT f i t) y (mP f i p q) (mL f i l) _).mono ?_; rintro e v5 ⟨rfl, g5⟩; have y0 := g5.out.cell (a := ⟨v3.heap.size, 0, none⟩) x0 (by simp); have y1 := g5.out.cell (a := ⟨v3.heap.size, 1, none⟩) x1 (by simp); have y2 := g5.out.cell (a := ⟨v3.heap.size, 2, none⟩) x2 (by simp); have y3 := g5.out.cell (a := ⟨v3.heap.size, 3, none⟩) x3 (by simp); have y4 := g5.out.cell (a := ⟨v3.heap.size, 4, none⟩) x4 (by simp); have z0 := g5.out.cell (a := ⟨v2.heap.size, 0, none⟩) u0 (by simp); have z1 := g5.out.cell (a := ⟨v2.heap.size, 1, none⟩) u1 (by simp); have z2 := g5.out.cell (a := ⟨v2.heap.size, 2, none⟩) u2 (by simp); have z3 := g5.out.cell (a := ⟨v2.heap.size, 3, none⟩) u3 (by simp); have z4 := g5.out.cell (a := ⟨v2.heap.size, 4, none⟩) u4 (by simp)))
  clear x0 x1 x2 x3 x4 u0 u1 u2 u3 u4
  have V5 := Lib.hid ((V4.out.drew).grown g5.out (by simp))
  have X5 := Lib.hid ((X4.out.drew).grown g5.out (by simp))
  have B5 := Lib.hid (gb_trans (gb_drew B4.out ) g5.out)
  clear V4 X4 B4 g5 y0 y1 y2 y3 y4 z0 z1 z2 z3 z4
  have x0 : v5.cell? ⟨v3.heap.size, 0, none⟩ = some (.int .i64 i) := X5.out.cell 0
  have x1 : v5.cell? ⟨v3.heap.size, 1, none⟩ = some (.int .i64 (mT f i t)) := X5.out.cell 1
  have x2 : v5.cell? ⟨v3.heap.size, 2, none⟩ = some (.int .i64 y) := X5.out.cell 2
  have x3 : v5.cell? ⟨v3.heap.size, 3, none⟩ = some (.int .i64 (mP f i p q)) := X5.out.cell 3
  have x4 : v5.cell? ⟨v3.heap.size, 4, none⟩ = some (.int .i64 (mL f i l)) := X5.out.cell 4
  go_wp2_with fail
  refine (look_any i (mT f i t) y (mP f i p q) (mL f i l) a2 a3 (mL_lo f i l ll) _).mono ?_
  rintro e v6 ⟨rfl, g6⟩
  clear x0 x1 x2 x3 x4
  have V6 := Lib.hid ((V5.out.grown g6.out (by simp)).alloc (.cells #[.int .i64 i, .int .i64 (mT f i t), .int .i64 y, .int .i64 a2, .int .i64 (lL (mP f i p q) a2 (mL f i l))] 23))
  have Y6 := Lib.hid (Blk.made v6 23 #[.int .i64 i, .int .i64 (mT f i t), .int .i64 y, .int .i64 a2, .int .i64 (lL (mP f i p q) a2 (mL f i l))])
  have B6 := Lib.hid (gb_alloc (gb_trans B5.out g6.out) (.cells #[.int .i64 i, .int .i64 (mT f i t), .int .i64 y, .int .i64 a2, .int .i64 (lL (mP f i p q) a2 (mL f i l))] 23))
  have m6 := Lib.hid (show v2.heap.size < v6.heap.size from Nat.lt_of_lt_of_le V5.out.lt g6.out.size)
  clear g6 V5 X5 B5
  go_wp2_with fail
  refine (reflook_any v2.heap.size i (mT f i t) y (mP f i p q) (mL f i l) a2 a3 (mL_lo f i l ll) _ V6.out).mono ?_
  rintro e v7 ⟨rfl, V7, g7⟩
  have Y7 := Lib.hid (Y6.out.grown g7.out (by have := m6.out; simp; omega))
  have B7 := Lib.hid (gb_over B6.out g7.out n2.out)
  clear g7 V6 Y6 B6
  have x0 : v7.cell? ⟨v6.heap.size, 0, none⟩ = some (.int .i64 i) := Y7.out.cell 0
  have x1 : v7.cell? ⟨v6.heap.size, 1, none⟩ = some (.int .i64 (mT f i t)) := Y7.out.cell 1
  have x2 : v7.cell? ⟨v6.heap.size, 2, none⟩ = some (.int .i64 y) := Y7.out.cell 2
  have x3 : v7.cell? ⟨v6.heap.size, 3, none⟩ = some (.int .i64 a2) := Y7.out.cell 3
  have x4 : v7.cell? ⟨v6.heap.size, 4, none⟩ = some (.int .i64 (lL (mP f i p q) a2 (mL f i l))) := Y7.out.cell 4
  have u0 : v7.cell? ⟨v2.heap.size, 0, none⟩ = some (.int .i64 i) := V7.out.cell 0
  have u1 : v7.cell? ⟨v2.heap.size, 1, none⟩ = some (.int .i64 (mT f i t)) := V7.out.cell 1
  have u2 : v7.cell? ⟨v2.heap.size, 2, none⟩ = some (.int .i64 y) := V7.out.cell 2
  have u3 : v7.cell? ⟨v2.heap.size, 3, none⟩ = some (.int .i64 a2) := V7.out.cell 3
  have u4 : v7.cell? ⟨v2.heap.size, 4, none⟩ = some (.int .i64 (lL (mP f i p q) a2 (mL f i l))) := V7.out.cell 4
  generalize decide (a3 < lL (mP f i p q) a2 (mL f i l)) = d at *
  go_wp2
  go_region_held3 (fun w' => w'.cell? ⟨v6.heap.size, 0, none⟩ = some (.int .i64 i) ∧ w'.cell? ⟨v6.heap.size, 1, none⟩ = some (.int .i64 (mT f i t)) ∧ w'.cell? ⟨v6.heap.size, 2, none⟩ = some (.int .i64 y) ∧ w'.cell? ⟨v6.heap.size, 3, none⟩ = some (.int .i64 a2) ∧ w'.cell? ⟨v6.heap.size, 4, none⟩ = some (.int .i64 (lL (mP f i p q) a2 (mL f i l))) ∧ w'.cell? ⟨v2.heap.size, 0, none⟩ = some (.int .i64 i) ∧ w'.cell? ⟨v2.heap.size, 1, none⟩ = some (.int .i64 (mT f i t)) ∧ w'.cell? ⟨v2.heap.size, 2, none⟩ = some (.int .i64 y) ∧ w'.cell? ⟨v2.heap.size, 3, none⟩ = some (.int .i64 a2) ∧ w'.cell? ⟨v2.heap.size, 4, none⟩ = some (.int .i64 (lL (mP f i p q) a2 (mL f i l)))) (go_keep) ((go_at_call 8; refine (plain_any i (mT f i t) y a2 (lL (mP f i p q) a2 (mL f i l)) _).mono ?_; rintro e v8 ⟨rfl, g8⟩; have y0 := g8.out.cell (a := ⟨v6.heap.size, 0, none⟩) x0 (by simp); have y1 := g8.out.cell (a := ⟨v6.heap.size, 1, none⟩) x1 (by simp); have y2 := g8.out.cell (a := ⟨v6.heap.size, 2, none⟩) x2 (by simp); have y3 := g8.out.cell (a := ⟨v6.heap.size, 3, none⟩) x3 (by simp); have y4 := g8.out.cell (a := ⟨v6.heap.size, 4, none⟩) x4 (by simp); have z0 := g8.out.cell (a := ⟨v2.heap.size, 0, none⟩) u0 (by simp); have z1 := g8.out.cell (a := ⟨v2.heap.size, 1, none⟩) u1 (by simp); have z2 := g8.out.cell (a := ⟨v2.heap.size, 2, none⟩) u2 (by simp); have z3 := g8.out.cell (a := ⟨v2.heap.size, 3, none⟩) u3 (by simp); have z4 := g8.out.cell (a := ⟨v2.heap.size, 4, none⟩) u4 (by simp)))
  go_wp2
  go_ret
  exact ⟨rfl, gb_below (gb_trans (gb_drew B7.out ) g8.out)⟩

theorem walk (z0 : Nat → Int) (z1 : Nat → Int) (y1 : Nat → Bool) (a2 a3 : Int) (w : World) (w0 : ∀ i, i < 5 → (Lit.int .i64 (z0 i)).wf = true) (w1 : ∀ i, i < 5 → (Lit.int .i64 (z1 i)).wf = true) (w2 : (Lit.int .i64 a2).wf = true) (w3 : (Lit.int .i64 a3).wf = true) :
    Calls Try.prog 3 #[.agg #[.int .i64 (z0 0), .int .i64 (z0 1), .int .i64 (z0 2), .int .i64 (z0 3), .int .i64 (z0 4)], .agg #[.int .i64 (z1 0), .int .i64 (z1 1), .int .i64 (z1 2), .int .i64 (z1 3), .bool (y1 4)], .int .i64 a2, .int .i64 a3] w fun e w' => e = .returned (.bool true) ∧ Below w.heap.size w w' :=
  walk1 _ _ _ _ _ _ _ _ _ _ _ _ (bounds_i64 (w0 1 (by omega))).1 (bounds_i64 (w0 4 (by omega))).1 w

theorem own : ownKnob Try.prog.godebug = none := by kernel_rfl
theorem laidOut : laidOutB Try.prog = true := by kernel_rfl

/-! ### THE ROW's STEP, as the guide has it -/
set_option maxRecDepth 100000 in
theorem lifted (os : Os) (started : os.Started) (H : Type) (enc : TypeId × Value → H) :
    ReturnsInHanded {} Try.checked os 3 .any (Rows.choiceMetSpec.pre6 enc Try.prog Try.f3 Rows.choiceMetRow.domain false) (Rows.choiceMetSpec.post enc Try.prog Try.f3 false true false false) := by
  refine returnsInHanded_of_change (C := Try.checked) own started (by kernel_rfl) Try.func3
    (ChangeSpec.witness6 (enc := enc) (C := Try.checked) false ⟨#[], #[.agg #[.int .i64 0, .int .i64 0, .int .i64 0, .int .i64 0, .int .i64 0], .agg #[.int .i64 0, .int .i64 0, .int .i64 0, .int .i64 0, .bool false], .int .i64 0, .int .i64 0], []⟩ 8 (by kernel_rfl) (by kernel_rfl) (by kernel_rfl) (by kernel_rfl)) ?_
  intro W base args ds gs before hval0 hW hcnd _
  have hval : ∀ (j : Nat) t v, Try.f3.params[j]? = some t → args[j]? = some v → Value.okWide Try.prog W .any base t v := hval0
  have hW' := hW
  obtain ⟨p, q, hA0, hV, rfl, hfz, hnd⟩ := hW
  have hA : DataW.TrodAll enc Try.prog W 0 (fun _ => true) true Try.f3.params.toList args.toList ds p := hA0
  rw [Try.params3] at hA hval
  obtain ⟨v0, vs0, d0, ds0, p0, q0, hargs, rfl, rfl, h0, r0⟩ := trodAll_cons hA
  obtain ⟨v1, vs1, d1, ds1, p1, q1, rfl, rfl, rfl, h1, r1⟩ := trodAll_cons r0
  obtain ⟨v2, vs2, d2, ds2, p2, q2, rfl, rfl, rfl, h2, r2⟩ := trodAll_cons r1
  obtain ⟨v3, vs3, d3, ds3, p3, q3, rfl, rfl, rfl, h3, r3⟩ := trodAll_cons r2
  obtain ⟨rfl, rfl, rfl⟩ := trodAll_nil r3
  obtain rfl : args = #[v0, v1, v2, v3] := by cases args; simp_all
  obtain ⟨rfl, rfl⟩ := trodVars_none hV
  obtain ⟨cs0, rfl, sz0⟩ := okWide_struct Try.underlying23 (hval 0 23 v0 rfl rfl)
  have k0 := h0
  have lt0 : ∀ x ∈ p0, x.block < W.heap.size := by obtain ⟨m, hm⟩ := k0; exact DataW.trod_lt m _ _ _ hm
  obtain ⟨z0, w0, rfl⟩ : ∃ z : Nat → Int, (∀ i, i < 5 → (Lit.int .i64 (z i)).wf = true) ∧ cs0 = ⟨(List.range 5).map fun i => .int .i64 (z i)⟩ := by
    obtain ⟨fuel, hf⟩ := h0
    exact isAgg_of Try.underlying23 Try.underlying3 Try.underlying2 (by kernel_rfl) (by kernel_rfl) (sz0.trans (by kernel_rfl)) (by decide) hf
  obtain ⟨cs1, rfl, sz1⟩ := okWide_struct Try.underlying25 (hval 1 25 v1 rfl rfl)
  have k1 := h1
  have lt1 : ∀ x ∈ p1, x.block < W.heap.size := by obtain ⟨m, hm⟩ := k1; exact DataW.trod_lt m _ _ _ hm
  obtain ⟨z1, y1, w1, rfl⟩ : ∃ (z : Nat → Int) (y : Nat → Bool), (∀ i, i < 5 → (Lit.int .i64 (z i)).wf = true) ∧ cs1 = ⟨(List.range 5).map (mixed (fun j => j == 4) z y)⟩ := by
    obtain ⟨fuel, hf⟩ := h1
    exact isMix_of (fun j => j == 4) Try.underlying25 Try.underlying3 Try.underlying4 (by kernel_rfl) (by kernel_rfl) (sz1.trans (by kernel_rfl)) (by decide) hf
  obtain ⟨a2, rfl, rfl, rfl, w2⟩ := open_int Try.underlying3 (hval 2 3 v2 rfl rfl) h2
  obtain ⟨a3, rfl, rfl, rfl, w3⟩ := open_int Try.underlying3 (hval 3 3 v3 rfl rfl) h3
  clear hA0 hval0
  refine (walk z0 z1 y1 a2 a3 W w0 w1 w2 w3).mono fun e W' ⟨he, bel⟩ => ?_
  subst he
  exact ⟨_, rfl, _, _, _, [], _, [], hW', trodAll_mk1 (shut_bool Try.underlying4 _), (trodAll_cons_mk (Below.trod laidOut (by kernel_rfl) (of_decide_eq_true (by kernel_rfl)) k0 bel lt0) (trodAll_cons_mk (Below.trod laidOut (by kernel_rfl) (of_decide_eq_true (by kernel_rfl)) k1 bel lt1) (trodAll_cons_mk (shut_int Try.underlying3 w2) (trodAll_cons_mk (shut_int Try.underlying3 w3) trodAll_mk0)))), rfl, bel.frame _, fun h => by cases h⟩

theorem over : Rows.choiceMetRow.holds Try.pinned (OpenSpec.ofChange Rows.choiceMetSpec) :=
  OpenClaim.holds_of_wide 3 Try.f3 rfl rfl rfl rfl rfl rfl rfl ⟨rfl, rfl, rfl, rfl, rfl⟩ rfl rfl rfl rfl rfl (by kernel_rfl) Try.func3 (by kernel_rfl)
    (of_decide_eq_true (by kernel_rfl)) (by unfold Func.isWrapper; first | (rw [if_pos (by decide +kernel)]; kernel_rfl) | (rw [if_neg (by decide +kernel)]; exact ⟨rfl, rfl⟩))
    (fun os started H enc _ => lifted os started H enc)

theorem proved : Rows.ChoiceMetSaid := over
#print axioms proved
end Go.Proofs.Ytgnnlgadbkmfeaa.choiceMet
