/- Package floor: what a floor has; of no floor, nothing. -/
import Derived.Test.YtocjbbfeegmkaaaFlE
import Derived.Laws.StructEq
import Derived.Laws.Tables
namespace Go.Proofs.Ytocjbbfeegmkaaa.fl
open Go Go.RowKit Go.Proofs.Ytocjbbfeegmkaaa.base Go.Proofs.Ytocjbbfeegmkaaa.lg
set_option linter.unusedVariables false

@[go_sem] theorem eqCfg (a0 a1 a2 a3 a4 a5 b0 b1 b2 b3 b4 b5 : Int) (w : World) : (Op.equalIn 10000 28 (.agg #[.int .i64 a0, .int .i64 a1, .int .i64 a2, .int .i64 a3, .int .i64 a4, .int .i64 a5]) (.agg #[.int .i64 b0, .int .i64 b1, .int .i64 b2, .int .i64 b3, .int .i64 b4, .int .i64 b5])).run Try.prog w = .ok (a0 == b0 && a1 == b1 && a2 == b2 && a3 == b3 && a4 == b4 && a5 == b5) w := by
  have u3 := Try.underlying3
  have ag3 := Try.isAgg3
  have z3 := Try.sizeOf3
  rw [show (10000 : Nat) = 9999 + 1 from rfl, run_equalIn_struct _ _ _ _ _ (by kernel_rfl) (by kernel_rfl)]
  simp only [Program.fieldsOf, Try.underlying28]
  go_simp
  have step : ∀ (a b : Int) (X : Result Bool) (Y : Bool), X = .ok Y w → (if a = b then X else .ok false w) = .ok (a == b && Y) w := by
    intro a b X Y h
    by_cases e : a = b
    · simp [e, h]
    · simp [e]
  have last : ∀ (a b : Int), (if a = b then (Result.ok true w : Result Bool) else .ok false w) = .ok (a == b) w := by
    intro a b
    by_cases e : a = b <;> simp [e]
  simp only [Bool.and_assoc]
  iterate 5 refine step _ _ _ _ ?_
  exact last _ _

theorem arena_nil (w : World) : Calls Try.prog 9 #[.pointer none] w fun e w' => e = .returned (.pointer none) ∧ w = w' := by
  go_enter Try.func9, Try.ntmps9
  go_wp2
  go_ret
  exact ⟨rfl, rfl⟩

theorem arena_in {w0 : Bas} {w : World} {fb n : Nat} {ds : List Int} {nx : Nat → Nat} {ev : List (Nat → Int)} {C : Core} {R : Blks} (H : Flo w0 w fb n ds nx ev C R) : Calls Try.prog 9 #[.pointer (some ⟨fb, 0, none⟩)] w fun e w' => e = .returned (.pointer (some ⟨C.ab, 0, none⟩)) ∧ w = w' := by
  obtain ⟨X, ⟨da, dc, nb, ea, ec, sw, pb, num, a, LB, LE, h1, h6, hnx, hdl, hN, h0, hA, hR, hE, rfl⟩, O⟩ := H
  have c := O.cell 0 0 rfl rfl
  clear O hR hE hN hnx hdl h1 h6 h0 hA
  go_enter Try.func9, Try.ntmps9
  go_wp2
  go_ret
  exact ⟨rfl, rfl⟩

theorem table_nil (w : World) : Calls Try.prog 10 #[.pointer none] w fun e w' => e = .returned (.pointer none) ∧ w = w' := by
  go_enter Try.func10, Try.ntmps10
  go_wp2
  go_ret
  exact ⟨rfl, rfl⟩

theorem table_in {w0 : Bas} {w : World} {fb n : Nat} {ds : List Int} {nx : Nat → Nat} {ev : List (Nat → Int)} {C : Core} {R : Blks} (H : Flo w0 w fb n ds nx ev C R) : Calls Try.prog 10 #[.pointer (some ⟨fb, 0, none⟩)] w fun e w' => e = .returned (.pointer (some ⟨C.tb, 0, none⟩)) ∧ w = w' := by
  obtain ⟨X, ⟨da, dc, nb, ea, ec, sw, pb, num, a, LB, LE, h1, h6, hnx, hdl, hN, h0, hA, hR, hE, rfl⟩, O⟩ := H
  have c := O.cell 0 1 rfl rfl
  clear O hR hE hN hnx hdl h1 h6 h0 hA
  go_enter Try.func10, Try.ntmps10
  go_wp2
  go_ret
  exact ⟨rfl, rfl⟩

theorem cells_nil (w : World) : Calls Try.prog 11 #[.pointer none] w fun e w' => e = .returned (.pointer none) ∧ w = w' := by
  go_enter Try.func11, Try.ntmps11
  go_wp2
  go_ret
  exact ⟨rfl, rfl⟩

theorem cells_in {w0 : Bas} {w : World} {fb n : Nat} {ds : List Int} {nx : Nat → Nat} {ev : List (Nat → Int)} {C : Core} {R : Blks} (H : Flo w0 w fb n ds nx ev C R) : Calls Try.prog 11 #[.pointer (some ⟨fb, 0, none⟩)] w fun e w' => e = .returned (.pointer (some ⟨C.cb, 0, none⟩)) ∧ w = w' := by
  obtain ⟨X, ⟨da, dc, nb, ea, ec, sw, pb, num, a, LB, LE, h1, h6, hnx, hdl, hN, h0, hA, hR, hE, rfl⟩, O⟩ := H
  have c := O.cell 0 2 rfl rfl
  clear O hR hE hN hnx hdl h1 h6 h0 hA
  go_enter Try.func11, Try.ntmps11
  go_wp2
  go_ret
  exact ⟨rfl, rfl⟩

theorem tickets_nil (w : World) : Calls Try.prog 12 #[.pointer none] w fun e w' => e = .returned (.pointer none) ∧ w = w' := by
  go_enter Try.func12, Try.ntmps12
  go_wp2
  go_ret
  exact ⟨rfl, rfl⟩

theorem tickets_in {w0 : Bas} {w : World} {fb n : Nat} {ds : List Int} {nx : Nat → Nat} {ev : List (Nat → Int)} {C : Core} {R : Blks} (H : Flo w0 w fb n ds nx ev C R) : Calls Try.prog 12 #[.pointer (some ⟨fb, 0, none⟩)] w fun e w' => e = .returned (.pointer (some ⟨C.tk, 0, none⟩)) ∧ w = w' := by
  obtain ⟨X, ⟨da, dc, nb, ea, ec, sw, pb, num, a, LB, LE, h1, h6, hnx, hdl, hN, h0, hA, hR, hE, rfl⟩, O⟩ := H
  have c := O.cell 0 9 rfl rfl
  clear O hR hE hN hnx hdl h1 h6 h0 hA
  go_enter Try.func12, Try.ntmps12
  go_wp2
  go_ret
  exact ⟨rfl, rfl⟩

theorem gate_nil (w : World) : Calls Try.prog 13 #[.pointer none] w fun e w' => e = .returned (.pointer none) ∧ w = w' := by
  go_enter Try.func13, Try.ntmps13
  go_wp2
  go_ret
  exact ⟨rfl, rfl⟩

theorem gate_in {w0 : Bas} {w : World} {fb n : Nat} {ds : List Int} {nx : Nat → Nat} {ev : List (Nat → Int)} {C : Core} {R : Blks} (H : Flo w0 w fb n ds nx ev C R) : Calls Try.prog 13 #[.pointer (some ⟨fb, 0, none⟩)] w fun e w' => e = .returned (.pointer (some ⟨C.g, 0, none⟩)) ∧ w = w' := by
  obtain ⟨X, ⟨da, dc, nb, ea, ec, sw, pb, num, a, LB, LE, h1, h6, hnx, hdl, hN, h0, hA, hR, hE, rfl⟩, O⟩ := H
  have c := O.cell 0 10 rfl rfl
  clear O hR hE hN hnx hdl h1 h6 h0 hA
  go_enter Try.func13, Try.ntmps13
  go_wp2
  go_ret
  exact ⟨rfl, rfl⟩

theorem manager_nil (w : World) : Calls Try.prog 14 #[.pointer none] w fun e w' => e = .returned (.nilIface) ∧ w = w' := by
  go_enter Try.func14, Try.ntmps14
  go_wp2
  go_ret
  exact ⟨rfl, rfl⟩

theorem manager_in {w0 : Bas} {w : World} {fb n : Nat} {ds : List Int} {nx : Nat → Nat} {ev : List (Nat → Int)} {C : Core} {R : Blks} (H : Flo w0 w fb n ds nx ev C R) : Calls Try.prog 14 #[.pointer (some ⟨fb, 0, none⟩)] w fun e w' => e = .returned (mgr C.m) ∧ w = w' := by
  obtain ⟨X, ⟨da, dc, nb, ea, ec, sw, pb, num, a, LB, LE, h1, h6, hnx, hdl, hN, h0, hA, hR, hE, rfl⟩, O⟩ := H
  have c := O.cell 0 11 rfl rfl
  clear O hR hE hN hnx hdl h1 h6 h0 hA
  generalize mgr C.m = mm at *
  go_enter Try.func14, Try.ntmps14
  go_wp2
  go_ret
  exact ⟨rfl, rfl⟩

theorem config_nil (w : World) : Calls Try.prog 8 #[.pointer none] w fun e w' => e = .returned (.agg #[.int .i64 0, .int .i64 0, .int .i64 0, .int .i64 0, .int .i64 0, .int .i64 0]) ∧ Hid (w.grownBy w' none) := by
  go_enter Try.func8, Try.ntmps8
  go_wp2
  refine bodyPost_ret (v := .agg #[.int .i64 0, .int .i64 0, .int .i64 0, .int .i64 0, .int .i64 0, .int .i64 0]) (by simp [results, Try.results8, go_sem]) rfl ⟨rfl, ?_⟩
  repeat (first | exact gb_refl _ _ | refine gb_alloc ?_ _ | refine gb_drewN ?_ _ | refine gb_setNew ?_ (by simp) _)

theorem config_in {w0 : Bas} {w : World} {fb n : Nat} {ds : List Int} {nx : Nat → Nat} {ev : List (Nat → Int)} {C : Core} {R : Blks} (H : Flo w0 w fb n ds nx ev C R) : Calls Try.prog 8 #[.pointer (some ⟨fb, 0, none⟩)] w fun e w' => e = .returned (.agg #[.int .i64 C.o, .int .i64 n, .int .i64 C.r, .int .i64 C.k, .int .i64 C.m, .int .i64 C.p]) ∧ Hid (w.grownBy w' none) := by
  obtain ⟨X, ⟨da, dc, nb, ea, ec, sw, pb, num, a, LB, LE, h1, h6, hnx, hdl, hN, h0, hA, hR, hE, rfl⟩, O⟩ := H
  have c3 := O.cell 0 3 rfl rfl
  have c4 := O.cell 0 4 rfl rfl
  have c5 := O.cell 0 5 rfl rfl
  have c6 := O.cell 0 6 rfl rfl
  have c7 := O.cell 0 7 rfl rfl
  have c8 := O.cell 0 8 rfl rfl
  have hlt := O.lt 0 rfl
  clear O hR hE hN hnx hdl h1 h6 h0 hA
  go_enter Try.func8, Try.ntmps8
  go_wp2
  refine bodyPost_ret (v := .agg #[.int .i64 C.o, .int .i64 n, .int .i64 C.r, .int .i64 C.k, .int .i64 C.m, .int .i64 C.p]) (by simp [results, Try.results8, go_sem]) rfl ⟨rfl, ?_⟩
  repeat (first | exact gb_refl _ _ | refine gb_alloc ?_ _ | refine gb_drewN ?_ _ | refine gb_setNew ?_ (by simp) _)

theorem note_nil (x : Nat → Int) (w : World) : Calls Try.prog 7 #[.pointer none, .agg #[.int .i64 (x 0), .int .i64 (x 1), .int .i64 (x 2), .int .i64 (x 3), .int .i64 (x 4), .int .i64 (x 5), .int .i64 (x 6)]] w fun e w' => e = .returned (.tuple #[]) ∧ Hid (w.grownBy w' none) := by
  go_enter Try.func7, Try.ntmps7
  go_wp2
  (first | go_end0 | refine bodyPost_ret (results_none rfl _ _ _) rfl ?_)
  exact ⟨rfl, gb_alloc (gb_refl _ _) _⟩

theorem draw_nil (th : Int) (w : World) : Calls Try.prog 15 #[.pointer none, .int .i64 th] w fun e w' => e = .returned (.int .i64 0) ∧ w = w' := by
  go_enter Try.func15, Try.ntmps15
  go_wp2
  go_ret
  exact ⟨rfl, rfl⟩

theorem trace_nil (w : World) : Calls Try.prog 16 #[.pointer none] w fun e w' => e = .returned (.slice none 0 0) ∧ w = w' := by
  go_enter Try.func16, Try.ntmps16
  go_wp2
  go_ret
  exact ⟨rfl, rfl⟩

theorem values_nil (w : World) : Calls Try.prog 17 #[.pointer none] w fun e w' => e = .returned (.slice none 0 0) ∧ w = w' := by
  go_enter Try.func17, Try.ntmps17
  go_wp2
  go_ret
  exact ⟨rfl, rfl⟩

end Go.Proofs.Ytocjbbfeegmkaaa.fl
