/-
  ChoiceOk: a wait of any number of steps may be, as long as there is any to wait, and has as many steps as the document says; and any decision may be just if the document says so; for any kind, any steps, and any number of steps to wait.
  Conditions: none.
-/
import Derived.Test.YtgnnlgadbkmfeaaRows
import Derived.Test.YtgnnlgadbkmfeaaOpen
import Derived.Test.YtgnnlgadbkmfeaaRef05
namespace Go.Proofs.Ytgnnlgadbkmfeaa.choiceOk
open Go.ChangeShapes Go.WideShapes Go.ChangeAt Go.RowKit Go.Proofs.Ytgnnlgadbkmfeaa.base Go.Proofs.Ytgnnlgadbkmfeaa.ch
set_option linter.unusedVariables false

theorem okFor (s n : Int) : okB 2 (steps s n) n = decide (1 ≤ n) := by unfold okB steps; rw [Bool.eq_iff_iff]; simp; omega

theorem ok_for (s n : Int) (b : Bool) (h : decide (1 ≤ n) = b) (w : World) : Calls Try.prog 16 #[.agg #[.int .i64 2, .int .i64 (steps s n)], .int .i64 n] w fun e w' => e = .returned (.bool b) ∧ Hid (w.grownBy w' none) := by
  rw [← h, ← okFor s n]
  exact ok_any 2 (steps s n) n w

theorem ok_is (k s n : Int) (b : Bool) (h : okB k s n = b) (w : World) : Calls Try.prog 16 #[.agg #[.int .i64 k, .int .i64 s], .int .i64 n] w fun e w' => e = .returned (.bool b) ∧ Hid (w.grownBy w' none) := by
  rw [← h]
  exact ok_any k s n w

set_option maxHeartbeats 2000000 in
theorem walk (k s n : Int) (w : World) (w0 : (Lit.int .i64 k).wf = true) (w1 : (Lit.int .i64 s).wf = true) (w2 : (Lit.int .i64 n).wf = true) :
    Calls Try.prog 5 #[.int .i64 k, .int .i64 s, .int .i64 n] w fun e w' => e = .returned (.bool true) ∧ Below w.heap.size w w' := by
  clear w0 w1 w2
  by_cases hn : 1 ≤ n
  all_goals
    go_enter Try.func5, Try.ntmps5
    go_wp2_with fail
    refine (alive_any _).mono ?_
    rintro e v1 ⟨rfl, g1⟩
    go_wp2_with fail
    refine (for_any s n _).mono ?_
    rintro e v2 ⟨rfl, g2⟩
    have D := Lib.hid (Blk.made v2 38 #[.int .i64 2, .int .i64 (steps s n)])
    have B2 := Lib.hid (gb_alloc (gb_trans g1.out g2.out) (.cells #[.int .i64 2, .int .i64 (steps s n)] 38))
    clear g1 g2
    have x0 : (v2.alloc (.cells #[.int .i64 2, .int .i64 (steps s n)] 38)).cell? ⟨v2.heap.size, 0, none⟩ = some (.int .i64 2) := D.out.cell 0
    have x1 : (v2.alloc (.cells #[.int .i64 2, .int .i64 (steps s n)] 38)).cell? ⟨v2.heap.size, 1, none⟩ = some (.int .i64 (steps s n)) := D.out.cell 1
    go_wp2
    go_region_held3 (fun w' => w'.cell? ⟨v2.heap.size, 0, none⟩ = some (.int .i64 2) ∧ w'.cell? ⟨v2.heap.size, 1, none⟩ = some (.int .i64 (steps s n))) (go_keep) (first | (go_at_call 15; refine (refsteps_any s n _).mono ?_; rintro e u3 ⟨rfl, rfl⟩) | (go_at_call 16; refine (ok_for s n _ (by first | exact decide_eq_true (by omega) | exact decide_eq_false (by omega)) _).mono ?_; rintro e v3 ⟨rfl, g3⟩; have y0 := g3.out.cell (a := ⟨v2.heap.size, 0, none⟩) x0 (by simp); have y1 := g3.out.cell (a := ⟨v2.heap.size, 1, none⟩) x1 (by simp)))
    have B3 := Lib.hid (gb_trans (gb_drewN B2.out _) g3.out)
    clear x0 x1 y0 y1 D B2 g3
    by_cases k1 : k = 1
    · subst k1
      by_cases s0 : s = 0
      · subst s0
        go_wp2_with fail
        refine (ok_is 1 0 n true (by unfold okB; simp; try omega) _).mono ?_
        rintro e v4 ⟨rfl, g4⟩
        go_wp2
        go_ret
        exact ⟨rfl, gb_below (gb_trans B3.out g4.out)⟩
      · have q0 : (s == 0) = false := by simpa using s0
        go_wp2_with fail
        refine (ok_is 1 s n false (by unfold okB; simp; try omega) _).mono ?_
        rintro e v4 ⟨rfl, g4⟩
        go_wp2
        go_ret
        exact ⟨rfl, gb_below (gb_trans B3.out g4.out)⟩
    by_cases k3 : k = 3
    · subst k3
      by_cases s0 : s = 0
      · subst s0
        go_wp2_with fail
        refine (ok_is 3 0 n true (by unfold okB; simp; try omega) _).mono ?_
        rintro e v4 ⟨rfl, g4⟩
        go_wp2
        go_ret
        exact ⟨rfl, gb_below (gb_trans B3.out g4.out)⟩
      · have q0 : (s == 0) = false := by simpa using s0
        go_wp2_with fail
        refine (ok_is 3 s n false (by unfold okB; simp; try omega) _).mono ?_
        rintro e v4 ⟨rfl, g4⟩
        go_wp2
        go_ret
        exact ⟨rfl, gb_below (gb_trans B3.out g4.out)⟩
    by_cases k2 : k = 2
    · subst k2
      by_cases s1 : 1 ≤ s
      · by_cases s2 : s ≤ n
        · try (exfalso; omega)
          all_goals
            go_wp2_with fail
            refine (ok_is 2 s n true (by unfold okB; simp; try omega) _).mono ?_
            rintro e v4 ⟨rfl, g4⟩
            go_wp2
            go_ret
            exact ⟨rfl, gb_below (gb_trans B3.out g4.out)⟩
        · go_wp2_with fail
          refine (ok_is 2 s n false (by unfold okB; simp; try omega) _).mono ?_
          rintro e v4 ⟨rfl, g4⟩
          go_wp2
          go_ret
          exact ⟨rfl, gb_below (gb_trans B3.out g4.out)⟩
      · go_wp2_with fail
        refine (ok_is 2 s n false (by unfold okB; simp; try omega) _).mono ?_
        rintro e v4 ⟨rfl, g4⟩
        go_wp2
        go_ret
        exact ⟨rfl, gb_below (gb_trans B3.out g4.out)⟩
    · have q1 : (k == 1) = false := by simpa using k1
      have q2 : (k == 2) = false := by simpa using k2
      have q3 : (k == 3) = false := by simpa using k3
      have hB := Lib.hid (okB_none k s n k1 k2 k3)
      clear k1 k2 k3
      go_wp2_with fail
      refine (ok_is k s n false hB.out _).mono ?_
      rintro e v4 ⟨rfl, g4⟩
      go_wp2
      go_ret
      exact ⟨rfl, gb_below (gb_trans B3.out g4.out)⟩

theorem own : ownKnob Try.prog.godebug = none := by kernel_rfl
theorem laidOut : laidOutB Try.prog = true := by kernel_rfl

/-! ### THE ROW's STEP, as the guide has it -/
set_option maxRecDepth 100000 in
theorem lifted (os : Os) (started : os.Started) (H : Type) (enc : TypeId × Value → H) :
    ReturnsInHanded {} Try.checked os 5 .any (Rows.choiceOkSpec.pre6 enc Try.prog Try.f5 Rows.choiceOkRow.domain false) (Rows.choiceOkSpec.post enc Try.prog Try.f5 false true false false) := by
  refine returnsInHanded_of_change (C := Try.checked) own started (by kernel_rfl) Try.func5
    (ChangeSpec.witness6 (enc := enc) (C := Try.checked) false ⟨#[], #[.int .i64 0, .int .i64 0, .int .i64 0], []⟩ 8 (by kernel_rfl) (by kernel_rfl) (by kernel_rfl) (by kernel_rfl)) ?_
  intro W base args ds gs before hval0 hW hcnd _
  have hval : ∀ (j : Nat) t v, Try.f5.params[j]? = some t → args[j]? = some v → Value.okWide Try.prog W .any base t v := hval0
  have hW' := hW
  obtain ⟨p, q, hA0, hV, rfl, hfz, hnd⟩ := hW
  have hA : DataW.TrodAll enc Try.prog W 0 (fun _ => true) true Try.f5.params.toList args.toList ds p := hA0
  rw [Try.params5] at hA hval
  obtain ⟨v0, vs0, d0, ds0, p0, q0, hargs, rfl, rfl, h0, r0⟩ := trodAll_cons hA
  obtain ⟨v1, vs1, d1, ds1, p1, q1, rfl, rfl, rfl, h1, r1⟩ := trodAll_cons r0
  obtain ⟨v2, vs2, d2, ds2, p2, q2, rfl, rfl, rfl, h2, r2⟩ := trodAll_cons r1
  obtain ⟨rfl, rfl, rfl⟩ := trodAll_nil r2
  obtain rfl : args = #[v0, v1, v2] := by cases args; simp_all
  obtain ⟨rfl, rfl⟩ := trodVars_none hV
  obtain ⟨a0, rfl, rfl, rfl, w0⟩ := open_int Try.underlying3 (hval 0 3 v0 rfl rfl) h0
  obtain ⟨a1, rfl, rfl, rfl, w1⟩ := open_int Try.underlying3 (hval 1 3 v1 rfl rfl) h1
  obtain ⟨a2, rfl, rfl, rfl, w2⟩ := open_int Try.underlying3 (hval 2 3 v2 rfl rfl) h2
  clear hA0 hval0
  refine (walk a0 a1 a2 W w0 w1 w2).mono fun e W' ⟨he, bel⟩ => ?_
  subst he
  exact ⟨_, rfl, _, _, _, [], _, [], hW', trodAll_mk1 (shut_bool Try.underlying4 _), (trodAll_cons_mk (shut_int Try.underlying3 w0) (trodAll_cons_mk (shut_int Try.underlying3 w1) (trodAll_cons_mk (shut_int Try.underlying3 w2) trodAll_mk0))), rfl, bel.frame _, fun h => by cases h⟩

theorem over : Rows.choiceOkRow.holds Try.pinned (OpenSpec.ofChange Rows.choiceOkSpec) :=
  OpenClaim.holds_of_wide 5 Try.f5 rfl rfl rfl rfl rfl rfl rfl ⟨rfl, rfl, rfl, rfl, rfl⟩ rfl rfl rfl rfl rfl (by kernel_rfl) Try.func5 (by kernel_rfl)
    (of_decide_eq_true (by kernel_rfl)) (by unfold Func.isWrapper; first | (rw [if_pos (by decide +kernel)]; kernel_rfl) | (rw [if_neg (by decide +kernel)]; exact ⟨rfl, rfl⟩))
    (fun os started H enc _ => lifted os started H enc)

theorem proved : Rows.ChoiceOkSaid := over
#print axioms proved
end Go.Proofs.Ytgnnlgadbkmfeaa.choiceOk
