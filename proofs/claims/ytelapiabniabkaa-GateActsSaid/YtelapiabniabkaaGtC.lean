/- The contracts of package gate over a gate as one thing: a new one, the sight of any, and the example that all laws begin with. -/
import Derived.Test.YtelapiabniabkaaGtB
import Derived.Deep.RegionWith
namespace Go.Proofs.Ytelapiabniabkaa.gate
open Go Go.RowKit Go.Proofs.Ytelapiabniabkaa.base Go.Proofs.Ytelapiabniabkaa.ch Go.Proofs.Ytelapiabniabkaa.wd
set_option linter.unusedVariables false

theorem infoInt : (Try.prog.info? 3).map (fun i => (i.zero, i.size, i.bytes)) = some (some (.int .i64 0), 1, 8) := by kernel_rfl

theorem new_bad (n : Int) (hn : n < 1 ∨ 6 < n) (w : World) : Calls Try.prog 10 #[.int .i64 n] w fun e w' => e = .returned (.tuple #[.pointer none, .int .i64 2]) ∧ w = w' := by
  have hn' : n < 1 ∨ (¬ n < 1 ∧ 6 < n) := by omega
  clear hn
  rcases hn' with h | ⟨h, h1⟩
  all_goals
    go_enter Try.func10, Try.ntmps10
    go_wp2
    go_ret2
    exact ⟨rfl, rfl⟩

theorem new_any (n : Nat) (h0 : 1 ≤ n) (h6 : n ≤ 6) (w0 w : World) (R : List (Nat × TypeId × List Value)) (o : Own w0 w R) :
    Calls Try.prog 10 #[.int .i64 (n : Int)] w fun e w' => ∃ g, e = .returned (.tuple #[.pointer (some ⟨g, 0, none⟩), .int .i64 0]) ∧ Hid (Gt w0 w' g n false 0 0 (fun _ => 0) 0 R) := by
  have d1 : decide ((n : Int) < 1) = false := by simp; omega
  have d2 : decide (6 < (n : Int)) = false := by simp; omega
  have hmk := run_make_row' (P := Try.prog) 29 3 (.int .i64 0) 8 Try.underlying29 infoInt rfl .i64 .i64 n (by omega) (by omega)
  rw [made_vals] at hmk
  have O := Lib.hid o
  have H := Lib.hid (show 1 ≤ n ∧ n ≤ 6 from ⟨h0, h6⟩)
  clear o h0 h6
  go_enter Try.func10, Try.ntmps10
  go_wp2
  go_region_with (go_at_call 23; refine (of_any _ _).mono ?_; rintro e v1 ⟨rfl, rfl⟩)
  all_goals go_wp2
  all_goals go_ret2
  all_goals refine ⟨_, rfl, ?_⟩
  · have X := ((((O.out.alloc 77 [.int .i64 0, .int .i64 0]).alloc 3 (vals (fun _ => 0) n)).alloc 64 [.pointer (some ⟨w.heap.size, 0, none⟩), .int .i64 0, .slice (some ⟨w.heap.size + 1, 0, none⟩) n n]).drew).perm (List.Perm.cons _ (List.Perm.swap _ _ _))
    simp only [size_alloc] at X
    exact ⟨w.heap.size, w.heap.size + 1, 0, 0, H.out.2, .inl ⟨rfl, rfl, rfl, rfl⟩, by omega, by omega, X⟩
  · have X := ((O.out.alloc 3 (vals (fun _ => 0) n)).alloc 77 [.int .i64 0, .int .i64 0]).alloc 64 [.pointer (some ⟨w.heap.size + 1, 0, none⟩), .int .i64 0, .slice (some ⟨w.heap.size, 0, none⟩) n n]
    have X := X.drew
    simp only [size_alloc] at X
    exact ⟨w.heap.size + 1, w.heap.size, 0, 0, H.out.2, .inl ⟨rfl, rfl, rfl, rfl⟩, by omega, by omega, X⟩

/-- The pulse that a sight tells. -/
def pU (b : Bool) (t : Int) (z : Nat → Int) : Int := if b = true then z t.toNat else 0

theorem see_any {w0 : World} {g n : Nat} {b : Bool} {s t : Int} {z : Nat → Int} {A : Int} {R : List (Nat × TypeId × List Value)} (w : World) (h : Gt w0 w g n b s t z A R) (hA : A ≤ 999999) :
    Calls Try.prog 17 #[.pointer (some ⟨g, 0, none⟩)] w fun e w' => e = .returned (.agg #[.bool b, .int .i64 s, .int .i64 t, .int .i64 (pU b t z)]) ∧ Hid (Gt w0 w' g n b s t z (A + 1) R) := by
  obtain ⟨num, hn, h6⟩ := h.num
  rcases hn with ⟨rfl, rfl, rfl, rfl⟩ | ⟨rfl, h1, h2, h3, h4, h5⟩
  · exact see_none w h hA
  · obtain ⟨k, rfl⟩ := Int.eq_ofNat_of_zero_le h3
    exact see_some k w h hA

/-- What one does that has met nobody yet. -/
theorem what_new (xs xt q st n : Int) (tr : Bool) (h : 0 ≤ xs) (w : World) :
    Calls Try.prog 19 #[.agg #[.int .i64 (-1), .int .i64 0, .int .i64 0, .int .i64 0, .int .i64 0], .agg #[.bool true, .int .i64 xs, .int .i64 xt, .int .i64 q], .int .i64 st, .int .i64 n, .bool tr] w fun e w' => e = .returned (.tuple #[.int .i64 (wK true xs st tr n 1), .agg #[.int .i64 (wI true xs st xs (-1)), .int .i64 (wI true xs st 1 0), .int .i64 0, .int .i64 (wI true xs st q 0), .int .i64 (wI true xs st 1 0)]]) ∧ Hid (w.grownBy w' none) := by
  have e1 : mT (-1) xs 0 = 1 := by unfold mT; rw [if_neg (by omega)]
  have e2 : mP (-1) xs 0 q = q := by unfold mP; rw [if_neg (by omega)]
  have e3 : mL (-1) xs 0 = 0 := by unfold mL; rw [if_neg (by omega)]
  have e4 : lL q q 0 = 1 := by unfold lL; rw [if_pos rfl]; rfl
  have D := what_any (-1) 0 0 0 0 true xs xt q st n tr (by omega) (by omega) w
  rw [e1, e2, e3, e4] at D
  exact D

theorem see_one {w0 : World} {g : Nat} {A : Int} {R : List (Nat × TypeId × List Value)} (w : World) (h : Gt w0 w g 2 true 5 1 (fun _ => 0) A R) (hA : A ≤ 999999) :
    Calls Try.prog 17 #[.pointer (some ⟨g, 0, none⟩)] w fun e w' => e = .returned (.agg #[.bool true, .int .i64 5, .int .i64 1, .int .i64 0]) ∧ Hid (Gt w0 w' g 2 true 5 1 (fun _ => 0) (A + 1) R) := see_some 1 w h hA

theorem alive_any (w : World) : Calls Try.prog 9 #[] w fun e w' => e = .returned (.bool true) ∧ Hid (w.grownBy w' none) := by
  have D1 := Lib.hid (fun u => what_new 5 1 0 7 9 false (by omega) u)
  rw [show wK true 5 7 false 9 1 = 3 by decide, show wI true 5 7 5 (-1) = 5 by decide, show wI true 5 7 1 0 = 1 by decide, show wI true 5 7 0 0 = 0 by decide] at D1
  have D2 := Lib.hid (fun u => what_new 5 1 0 3 9 true (by omega) u)
  rw [show wK true 5 3 true 9 1 = 1 by decide, show wI true 5 3 5 (-1) = -1 by decide, show wI true 5 3 1 0 = 0 by decide, show wI true 5 3 0 0 = 0 by decide] at D2
  have f1 : ∀ u : World, (Instr.field 36 (.agg #[.bool false, .int .i64 0, .int .i64 0, .int .i64 0]) 0).run Try.prog u = .ok (.bool false) u := fun _ => by kernel_rfl
  have f2 : ∀ u : World, (Instr.field 36 (.agg #[.bool true, .int .i64 5, .int .i64 1, .int .i64 0]) 1).run Try.prog u = .ok (.int .i64 5) u := fun _ => by kernel_rfl
  have f3 : ∀ u : World, (Instr.field 36 (.agg #[.bool true, .int .i64 5, .int .i64 1, .int .i64 0]) 2).run Try.prog u = .ok (.int .i64 1) u := fun _ => by kernel_rfl
  go_enter Try.func9, Try.ntmps9
  go_wp2_with fail
  refine (new_any 2 (by omega) (by omega) w w [] (Own.start w)).mono ?_
  rintro e v1 ⟨g, rfl, G1⟩
  go_wp2_with fail
  refine (see_none _ G1.out (by omega)).mono ?_
  rintro e v2 ⟨rfl, G2⟩
  go_wp2_with fail
  refine (see_none _ G2.out (by omega)).mono ?_
  rintro e v3 ⟨rfl, G3⟩
  go_wp2_with fail
  refine (swap_hits 0 5 1 (by omega) (by omega) (by omega) (by omega) (by omega) _ G3.out).mono ?_
  rintro e v4 ⟨rfl, G4⟩
  go_wp2_with fail
  refine (see_one _ G4.out (by omega)).mono ?_
  rintro e v5 ⟨rfl, G5⟩
  go_wp2_with fail
  refine (see_one _ G5.out (by omega)).mono ?_
  rintro e v6 ⟨rfl, G6⟩
  go_wp2_with fail
  refine (fresh_any _).mono ?_
  rintro e v7 ⟨rfl, g7⟩
  have G7 := Lib.hid (G6.out.grown g7.out)
  go_wp2_with fail
  refine (see_one _ G7.out (by omega)).mono ?_
  rintro e v8 ⟨rfl, G8⟩
  clear G1 G2 G3 G4 G5 G6 G7 g7
  go_wp2_with fail
  refine (D1.out _).mono ?_
  rintro e v9 ⟨rfl, g9⟩
  have G9 := Lib.hid ((G8.out.grown g9.out).alloc 45 [.int .i64 5, .int .i64 1, .int .i64 0, .int .i64 0, .int .i64 1])
  go_wp2_with fail
  refine (fresh_any _).mono ?_
  rintro e v10 ⟨rfl, g10⟩
  have G10 := Lib.hid (G9.out.grown g10.out)
  go_wp2_with fail
  refine (see_one _ G10.out (by omega)).mono ?_
  rintro e v11 ⟨rfl, G11⟩
  go_wp2_with fail
  refine (D2.out _).mono ?_
  rintro e v12 ⟨rfl, g12⟩
  have G12 := Lib.hid ((G11.out.grown g12.out).alloc 45 [.int .i64 (-1), .int .i64 0, .int .i64 0, .int .i64 0, .int .i64 0])
  go_wp2
  go_ret
  exact ⟨rfl, G12.out.grow⟩

end Go.Proofs.Ytelapiabniabkaa.gate
