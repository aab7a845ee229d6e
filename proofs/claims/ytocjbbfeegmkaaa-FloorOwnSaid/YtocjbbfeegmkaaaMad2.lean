/- The document's own New; managers' marks; what a floor's cells are asked. -/
import Derived.Test.YtocjbbfeegmkaaaMade13
namespace Go.Proofs.Ytocjbbfeegmkaaa.fl
open Go Go.RowKit Go.Proofs.Ytocjbbfeegmkaaa.base Go.Proofs.Ytocjbbfeegmkaaa.lg Go.Proofs.Ytocjbbfeegmkaaa.ce Go.Proofs.Ytocjbbfeegmkaaa.rf
set_option linter.unusedVariables false

/-- The document's error of a floor. -/
def errF (o t r k m p len : Int) : Int := if okC o t r k m p = true then (if len = o then (if r < 2 * len then 4 else 0) else 3) else 2

theorem refnew_any (o t r k m p : Int) (a : Option Addr) (len cap : Nat) (hl : len ≤ 1000) (w : World) : Calls Try.prog 19 #[.agg #[.int .i64 o, .int .i64 t, .int .i64 r, .int .i64 k, .int .i64 m, .int .i64 p], .slice a len cap] w fun e w' => e = .returned (.int .i64 (errF o t r k m p len)) ∧ Hid (w.grownBy w' none) := by
  have O0 := Lib.hid ((base.Own.start w).alloc 28 [.int .i64 o, .int .i64 t, .int .i64 r, .int .i64 k, .int .i64 m, .int .i64 p])
  have CK := Lib.hid (fun u => refcheck_any o t r k m p u)
  have hw : IntKind.i64.wrap (2 * (len : Int)) = 2 * (len : Int) := IntWalk.i64_in _ (by omega)
  by_cases h1 : okC o t r k m p = true
  · rw [h1] at CK
    by_cases h2 : (len : Int) = o
    · have e2 : ((len : Int) != o) = false := by simpa using h2
      by_cases h3 : r < 2 * (len : Int)
      · have E := Lib.hid (show errF o t r k m p len = 4 by unfold errF; rw [if_pos h1, if_pos h2, if_pos h3])
        clear h1 h2
        go_enter Try.func19, Try.ntmps19
        go_wp2_with fail
        refine (CK.out _).mono ?_
        rintro e v ⟨rfl, g⟩
        have O1 := Lib.hid (O0.out.grown g.out)
        have c0 := O1.out.cell 0 0 rfl rfl; have c1 := O1.out.cell 0 1 rfl rfl; have c2 := O1.out.cell 0 2 rfl rfl; have c3 := O1.out.cell 0 3 rfl rfl; have c4 := O1.out.cell 0 4 rfl rfl; have c5 := O1.out.cell 0 5 rfl rfl
        go_wp2
        go_ret
        exact ⟨by rw [E.out]; rfl, O1.out.grow⟩
      · have E := Lib.hid (show errF o t r k m p len = 0 by unfold errF; rw [if_pos h1, if_pos h2, if_neg h3])
        clear h1 h2
        go_enter Try.func19, Try.ntmps19
        go_wp2_with fail
        refine (CK.out _).mono ?_
        rintro e v ⟨rfl, g⟩
        have O1 := Lib.hid (O0.out.grown g.out)
        have c0 := O1.out.cell 0 0 rfl rfl; have c1 := O1.out.cell 0 1 rfl rfl; have c2 := O1.out.cell 0 2 rfl rfl; have c3 := O1.out.cell 0 3 rfl rfl; have c4 := O1.out.cell 0 4 rfl rfl; have c5 := O1.out.cell 0 5 rfl rfl
        go_wp2
        go_ret
        exact ⟨by rw [E.out]; rfl, O1.out.grow⟩
    · have e2 : ((len : Int) != o) = true := by simpa using h2
      have E := Lib.hid (show errF o t r k m p len = 3 by unfold errF; rw [if_pos h1, if_neg h2])
      clear h1 h2
      go_enter Try.func19, Try.ntmps19
      go_wp2_with fail
      refine (CK.out _).mono ?_
      rintro e v ⟨rfl, g⟩
      have O1 := Lib.hid (O0.out.grown g.out)
      have c0 := O1.out.cell 0 0 rfl rfl; have c1 := O1.out.cell 0 1 rfl rfl; have c2 := O1.out.cell 0 2 rfl rfl; have c3 := O1.out.cell 0 3 rfl rfl; have c4 := O1.out.cell 0 4 rfl rfl; have c5 := O1.out.cell 0 5 rfl rfl
      go_wp2
      go_ret
      exact ⟨by rw [E.out]; rfl, O1.out.grow⟩
  · have h1' : okC o t r k m p = false := Bool.eq_false_iff.2 h1
    rw [h1'] at CK
    have E := Lib.hid (show errF o t r k m p len = 2 by unfold errF; rw [if_neg h1])
    clear h1 h1'
    go_enter Try.func19, Try.ntmps19
    go_wp2_with fail
    refine (CK.out _).mono ?_
    rintro e v ⟨rfl, g⟩
    have O1 := Lib.hid (O0.out.grown g.out)
    go_wp2
    go_ret
    exact ⟨by rw [E.out]; rfl, O1.out.grow⟩

theorem marks1 (w : World) : Calls Try.prog 95 #[.agg #[]] w fun e w' => e = .returned (.bool false) ∧ Hid (w.grownBy w' none) := by
  go_enter Try.func95, Try.ntmps95
  go_wp2
  go_ret
  exact ⟨rfl, gb_alloc (gb_refl _ _) _⟩

theorem marks2 (w : World) : Calls Try.prog 97 #[.agg #[]] w fun e w' => e = .returned (.bool false) ∧ Hid (w.grownBy w' none) := by
  go_enter Try.func97, Try.ntmps97
  go_wp2
  go_ret
  exact ⟨rfl, gb_alloc (gb_refl _ _) _⟩

theorem marks3 (w : World) : Calls Try.prog 100 #[.agg #[]] w fun e w' => e = .returned (.bool false) ∧ Hid (w.grownBy w' none) := by
  go_enter Try.func100, Try.ntmps100
  go_wp2
  go_ret
  exact ⟨rfl, gb_alloc (gb_refl _ _) _⟩

theorem marks4 (w : World) : Calls Try.prog 101 #[.agg #[]] w fun e w' => e = .returned (.bool true) ∧ Hid (w.grownBy w' none) := by
  go_enter Try.func101, Try.ntmps101
  go_wp2
  go_ret
  exact ⟨rfl, gb_alloc (gb_refl _ _) _⟩

section
variable {b0 : Nat} {rs : List ar.Rc} {hd : List Int} {dm : Nat} {is : Int → Bool} {num : Int → Nat → Int} {B : Int} {w0 w : World} {fb n : Nat} {dl : List Int} {nx : Nat → Nat} {ev : List (Nat → Int)} {C : Core} {R : Blks} {r : Int} {cb tb ab : Nat} {F : Nat → Prop}

theorem cel_len (h : Cel b0 w cb tb ab r rs hd dm is num B F) : Calls Try.prog 22 #[.pointer (some ⟨ab, 0, none⟩)] w fun e w' => e = .returned (.int .i64 rs.length) ∧ w = w' := by
  obtain ⟨G, r', wb, ⟨mb, r2, blk, A, T, rfl⟩, K, hs, hl, rfl⟩ := h
  exact ar.lenR b0 ab r rs r2 w A

theorem cel_left (h : Cel b0 w cb tb ab r rs hd dm is num B F) (u : r ≤ 4096) : Calls Try.prog 23 #[.pointer (some ⟨ab, 0, none⟩)] w fun e w' => ∃ k, e = .returned (.int .i64 (r - rs.length)) ∧ w.drewN k = w' := by
  obtain ⟨G, r', wb, ⟨mb, r2, blk, A, T, rfl⟩, K, hs, hl, rfl⟩ := h
  exact ar.leftR b0 ab r rs r2 w A hl u

theorem cel_count (h : Cel b0 w cb tb ab r rs hd dm is num B F) : Calls Try.prog 24 #[.pointer (some ⟨tb, 0, none⟩)] w fun e w' => e = .returned (.int .i64 dm) ∧ w = w' := by
  obtain ⟨G, r', wb, ⟨mb, r2, blk, A, T, rfl⟩, K, hs, hl, rfl⟩ := h
  exact ds.count_any b0 tb mb ab dm is blk num B w T
end

end Go.Proofs.Ytocjbbfeegmkaaa.fl
