/-
  For FloorMade: whether any config may be, and the error of a floor, are the document's, and a floor has what its config says: its manager's marks, its arena's room, no descriptor, its objects, its tickets, its threads, its first values, no event; for any config, any first values.
  Conditions: none (of more than 50 first values the law says nothing by itself).
-/
import Derived.Test.YtocjbbfeegmkaaaAlive13
import Derived.Test.YtocjbbfeegmkaaaMad3
import Derived.Test.YtocjbbfeegmkaaaOpenB
namespace Go.Proofs.Ytocjbbfeegmkaaa.floorMade
open Go.ChangeShapes Go.WideShapes Go.ChangeAt Go.RowKit Go.Proofs.Ytocjbbfeegmkaaa.base Go.Proofs.Ytocjbbfeegmkaaa.fl Go.Proofs.Ytocjbbfeegmkaaa.ce Go.Proofs.Ytocjbbfeegmkaaa.rf
set_option linter.unusedVariables false

/-- At the head of a round: j tickets were taken. -/
def RelT (H : Int → World → Prop) (k : Int) (iv : Value) (wr : World) : Prop := ∃ j : Nat, (j : Int) ≤ k ∧ iv = .int .i64 j ∧ H j wr

theorem walk_out (o t r k m p : Int) (a1 : Option Addr) (len1 cap1 : Nat) (w : World) (h : 50 < (len1 : Int)) : Calls Try.prog 4 #[.agg #[.int .i64 o, .int .i64 t, .int .i64 r, .int .i64 k, .int .i64 m, .int .i64 p], .slice a1 len1 cap1] w fun e w' => e = .returned (.bool true) ∧ Below w.heap.size w w' := by
  have O0 := Lib.hid ((base.Own.start w).alloc 28 [.int .i64 o, .int .i64 t, .int .i64 r, .int .i64 k, .int .i64 m, .int .i64 p])
  go_enter Try.func4, Try.ntmps4
  go_wp2_with fail
  refine (alive_any _).mono ?_
  rintro e v1 ⟨rfl, g1⟩
  go_wp2
  go_ret
  exact ⟨rfl, gb_below (O0.out.grown g1.out).grow⟩

theorem new_err (o t r k m p : Int) (a1 : Option Addr) (len1 cap1 : Nat) (hE : errF o t r k m p len1 ≠ 0) (w : World) :
    Calls Try.prog 18 #[.agg #[.int .i64 o, .int .i64 t, .int .i64 r, .int .i64 k, .int .i64 m, .int .i64 p], .slice a1 len1 cap1, .slice none 0 0] w fun e w' => e = .returned (.tuple #[.pointer none, .int .i64 (errF o t r k m p len1)]) ∧ Hid (w.grownBy w' none) := by
  unfold errF at *
  split at hE
  · next h1 =>
    split at hE
    · next h2 =>
      split at hE
      · next h3 =>
        rw [if_pos h1, if_pos h2, if_pos h3]
        exact new_full o r k m p t h1 a1 len1 cap1 h2 h3 none 0 0 w
      · exact absurd rfl hE
    · next h2 =>
      rw [if_pos h1, if_neg h2]
      exact new_form o r k m p t h1 a1 len1 cap1 h2 none 0 0 w
  · next h1 =>
    rw [if_neg h1]
    exact new_range o r k m p t (Bool.eq_false_iff.2 h1) a1 len1 cap1 none 0 0 w

set_option maxRecDepth 100000 in
set_option maxHeartbeats 4000000 in
theorem walkErr (o t r k m p : Int) (a1 : Option Addr) (len1 cap1 : Nat) (w : World) (h : ¬ 50 < (len1 : Int)) (hE : errF o t r k m p len1 ≠ 0) : Calls Try.prog 4 #[.agg #[.int .i64 o, .int .i64 t, .int .i64 r, .int .i64 k, .int .i64 m, .int .i64 p], .slice a1 len1 cap1] w fun e w' => e = .returned (.bool true) ∧ Below w.heap.size w w' := by
  have O0 := Lib.hid ((base.Own.start w).alloc 28 [.int .i64 o, .int .i64 t, .int .i64 r, .int .i64 k, .int .i64 m, .int .i64 p])
  have NE := Lib.hid (fun u => new_err o t r k m p a1 len1 cap1 hE u)
  have RN := Lib.hid (fun u => refnew_any o t r k m p a1 len1 cap1 (by omega) u)
  have CK := Lib.hid (fun u => check_any o t r k m p u)
  have RC := Lib.hid (fun u => refcheck_any o t r k m p u)
  generalize okC o t r k m p = ok at *
  generalize errF o t r k m p len1 = E at *
  have hE1 : (E != 0) = true := by simpa using hE
  have hE2 : (E == 0) = false := by simpa using hE
  clear hE
  go_enter Try.func4, Try.ntmps4
  go_wp2_with fail
  refine (alive_any _).mono ?_
  rintro e v1 ⟨rfl, g1⟩
  have O1 := Lib.hid (O0.out.grown g1.out)
  clear O0 g1
  have c0 := O1.out.cell 0 0 rfl rfl; have c1 := O1.out.cell 0 1 rfl rfl; have c2 := O1.out.cell 0 2 rfl rfl; have c3 := O1.out.cell 0 3 rfl rfl; have c4 := O1.out.cell 0 4 rfl rfl; have c5 := O1.out.cell 0 5 rfl rfl
  go_wp2_with fail
  refine (NE.out _).mono ?_
  rintro e v2 ⟨rfl, g2⟩
  have O2 := Lib.hid (O1.out.grown g2.out)
  clear O1 g2 c0 c1 c2 c3 c4 c5
  have c0 := O2.out.cell 0 0 rfl rfl; have c1 := O2.out.cell 0 1 rfl rfl; have c2 := O2.out.cell 0 2 rfl rfl; have c3 := O2.out.cell 0 3 rfl rfl; have c4 := O2.out.cell 0 4 rfl rfl; have c5 := O2.out.cell 0 5 rfl rfl
  go_wp2_with fail
  refine (RN.out _).mono ?_
  rintro e v3 ⟨rfl, g3⟩
  have O3 := Lib.hid (O2.out.grown g3.out)
  clear O2 g3 c0 c1 c2 c3 c4 c5
  have c0 := O3.out.cell 0 0 rfl rfl; have c1 := O3.out.cell 0 1 rfl rfl; have c2 := O3.out.cell 0 2 rfl rfl; have c3 := O3.out.cell 0 3 rfl rfl; have c4 := O3.out.cell 0 4 rfl rfl; have c5 := O3.out.cell 0 5 rfl rfl
  generalize w.heap.size = bc at *
  go_wp2
  go_region_held3 (fun w' => w'.cell? ⟨bc, 0, none⟩ = some (.int .i64 o) ∧ w'.cell? ⟨bc, 1, none⟩ = some (.int .i64 t) ∧ w'.cell? ⟨bc, 2, none⟩ = some (.int .i64 r) ∧ w'.cell? ⟨bc, 3, none⟩ = some (.int .i64 k) ∧ w'.cell? ⟨bc, 4, none⟩ = some (.int .i64 m) ∧ w'.cell? ⟨bc, 5, none⟩ = some (.int .i64 p)) (go_keep) (first
    | (go_at_call 21; have e1 := O4.out; clear e1; refine (RC.out _).mono ?_; rintro e v5 ⟨rfl, g5⟩; have O5 := Lib.hid (O4.out.grown g5.out); have y0 := O5.out.cell 0 0 rfl rfl; have y1 := O5.out.cell 0 1 rfl rfl; have y2 := O5.out.cell 0 2 rfl rfl; have y3 := O5.out.cell 0 3 rfl rfl; have y4 := O5.out.cell 0 4 rfl rfl; have y5 := O5.out.cell 0 5 rfl rfl; clear g5)
    | (go_at_call 20; refine (CK.out _).mono ?_; rintro e v4 ⟨rfl, g4⟩; have O4 := Lib.hid (O3.out.drew.grown g4.out); have x0 := O4.out.cell 0 0 rfl rfl; have x1 := O4.out.cell 0 1 rfl rfl; have x2 := O4.out.cell 0 2 rfl rfl; have x3 := O4.out.cell 0 3 rfl rfl; have x4 := O4.out.cell 0 4 rfl rfl; have x5 := O4.out.cell 0 5 rfl rfl; clear g4))
  go_wp2
  go_ret
  exact ⟨rfl, gb_below O5.out.grow⟩

end Go.Proofs.Ytocjbbfeegmkaaa.floorMade
