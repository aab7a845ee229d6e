/- The document's own Check and New; what a floor's cells are asked; managers' marks. -/
import Derived.Test.YtocjbbfeegmkaaaFlH
import Derived.Test.YtocjbbfeegmkaaaCellsLem
import Derived.BigQuiet
import Derived.Deep.QuietTactic
import Derived.IntWalk
namespace Go.Proofs.Ytocjbbfeegmkaaa.fl
open Go Go.RowKit Go.Proofs.Ytocjbbfeegmkaaa.base Go.Proofs.Ytocjbbfeegmkaaa.lg Go.Proofs.Ytocjbbfeegmkaaa.ce Go.Proofs.Ytocjbbfeegmkaaa.rf
set_option linter.unusedVariables false

/-- What the document's Check goes through. -/
def lst (o t r k m p : Int) (i : Nat) : Int := [o, 1, 8, t, 1, 6, r, 1, 4096, k, 0, 255, m, 1, 4, p, 1, 64].getD i 0

theorem okC_bad (o t r k m p : Int) (a : Nat) (ha : a < 6) (h : inB (lst o t r k m p (3 * a)) (lst o t r k m p (3 * a + 1)) (lst o t r k m p (3 * a + 2)) = false) : okC o t r k m p = false := by
  unfold okC
  match a, ha with
  | 0, _ => rw [show inB o 1 8 = false from h]; rfl
  | 1, _ => rw [show inB t 1 6 = false from h]; simp
  | 2, _ => rw [show inB r 1 4096 = false from h]; simp
  | 3, _ => rw [show inB k 0 255 = false from h]; simp
  | 4, _ => rw [show inB m 1 4 = false from h]; simp
  | 5, _ => rw [show inB p 1 64 = false from h]; simp
theorem okC_all (o t r k m p : Int) (h : ∀ a, a < 6 → inB (lst o t r k m p (3 * a)) (lst o t r k m p (3 * a + 1)) (lst o t r k m p (3 * a + 2)) = true) : okC o t r k m p = true := by
  unfold okC
  rw [show inB o 1 8 = true from h 0 (by omega), show inB t 1 6 = true from h 1 (by omega), show inB r 1 4096 = true from h 2 (by omega), show inB k 0 255 = true from h 3 (by omega), show inB m 1 4 = true from h 4 (by omega), show inB p 1 64 = true from h 5 (by omega)]
  rfl

set_option maxHeartbeats 1000000 in
theorem refcheck_any (o t r k m p : Int) (w : World) : Calls Try.prog 21 #[.agg #[.int .i64 o, .int .i64 t, .int .i64 r, .int .i64 k, .int .i64 m, .int .i64 p]] w fun e w' => e = .returned (.bool (okC o t r k m p)) ∧ Hid (w.grownBy w' none) := by
  have O0 : base.Own ⟨w, fun _ => none⟩ ((w.alloc (.cells #[.int .i64 o, .int .i64 t, .int .i64 r, .int .i64 k, .int .i64 m, .int .i64 p] 28)).alloc (.cells #[.int .i64 o, .int .i64 1, .int .i64 8, .int .i64 t, .int .i64 1, .int .i64 6, .int .i64 r, .int .i64 1, .int .i64 4096, .int .i64 k, .int .i64 0, .int .i64 255, .int .i64 m, .int .i64 1, .int .i64 4, .int .i64 p, .int .i64 1, .int .i64 64] 3)) [(w.heap.size + 1, 3, vals (lst o t r k m p) 18), (w.heap.size, 28, [.int .i64 o, .int .i64 t, .int .i64 r, .int .i64 k, .int .i64 m, .int .i64 p])] := by
    have X := ((base.Own.start w).alloc 28 [.int .i64 o, .int .i64 t, .int .i64 r, .int .i64 k, .int .i64 m, .int .i64 p]).alloc 3 [.int .i64 o, .int .i64 1, .int .i64 8, .int .i64 t, .int .i64 1, .int .i64 6, .int .i64 r, .int .i64 1, .int .i64 4096, .int .i64 k, .int .i64 0, .int .i64 255, .int .i64 m, .int .i64 1, .int .i64 4, .int .i64 p, .int .i64 1, .int .i64 64]
    simp only [size_alloc] at X
    exact X
  have O0 := Lib.hid O0
  have BAD := Lib.hid (okC_bad o t r k m p)
  have ALL := Lib.hid (okC_all o t r k m p)
  go_enter Try.func21, Try.ntmps21
  go_wp2_with fail
  generalize (w.alloc _).alloc _ = u at *
  generalize w.heap.size + 1 = sb at *
  generalize w.heap.size = bc at *
  generalize hL : lst o t r k m p = L at *
  clear hL
  go_loopw [4] (fun i wr => ∃ j q : Nat, j ≤ 6 ∧ i = .int .i64 ((3 * j : Nat) : Int) ∧ (∀ a, a < j → inB (L (3 * a)) (L (3 * a + 1)) (L (3 * a + 2)) = true) ∧ wr = u.drewN q) (fun i _ => (18 - intOf i).toNat)
  case atStart => exact ⟨0, 0, by omega, rfl, fun a h => by omega, rfl⟩
  case round =>
    obtain ⟨j, q, hj, rfl, hin, rfl⟩ := hrel
    have HI := Lib.hid hin
    clear hin
    by_cases hlt : j < 6
    · obtain ⟨I, hI⟩ : ∃ I : Nat, I = 3 * j := ⟨_, rfl⟩
      have c0 : (u.drewN q).cell? ⟨sb, I, none⟩ = some (.int .i64 (L I)) := (O0.out.drewN q).cell 0 I rfl (vals_get L 18 I (by omega))
      have c1 : (u.drewN q).cell? ⟨sb, I + 1, none⟩ = some (.int .i64 (L (I + 1))) := (O0.out.drewN q).cell 0 (I + 1) rfl (vals_get L 18 (I + 1) (by omega))
      have c2 : (u.drewN q).cell? ⟨sb, I + 2, none⟩ = some (.int .i64 (L (I + 2))) := (O0.out.drewN q).cell 0 (I + 2) rfl (vals_get L 18 (I + 2) (by omega))
      have w1 : IntKind.i64.wrap ((I : Int) + 1) = (I : Int) + 1 := IntWalk.i64_in _ (by omega)
      have w2 : IntKind.i64.wrap ((I : Int) + 2) = (I : Int) + 2 := IntWalk.i64_in _ (by omega)
      have w3 : IntKind.i64.wrap ((I : Int) + 3) = (I : Int) + 3 := IntWalk.i64_in _ (by omega)
      have i0 : (0 : Int) ≤ (I : Int) := by omega
      have i1 : (I : Int) < 18 := by omega
      have i2 : (0 : Int) ≤ (I : Int) + 1 := by omega
      have i3 : (I : Int) + 1 < 18 := by omega
      have i4 : (0 : Int) ≤ (I : Int) + 2 := by omega
      have i5 : (I : Int) + 2 < 18 := by omega
      have B2 := Lib.hid (BAD.out j hlt)
      rw [← hI] at B2
      have SUC : Hid (inB (L I) (L (I + 1)) (L (I + 2)) = true → ∀ a, a < j + 1 → inB (L (3 * a)) (L (3 * a + 1)) (L (3 * a + 2)) = true) := fun h a ha => by
        by_cases e : a = j
        · subst e; rw [← hI]; exact h
        · exact HI.out a (by omega)
      rw [← hI]
      have HE := Lib.hid hI
      clear hI
      generalize L (I + 2) = hi at *
      generalize L (I + 1) = lo at *
      generalize L I = x at *
      generalize hw : u.drewN q = v at *
      by_cases h1 : x < lo
      · have d1 : decide (x < lo) = true := by simpa using h1
        have E := Lib.hid (B2.out (inB_not (.inl h1)))
        go_wp2_with fail
        go_quiet (fail)
        go_wp2
        go_ret
        rw [← hw]
        exact ⟨by rw [E.out]; rfl, ((O0.out.drewN q).drewN _).grow⟩
      · have d1 : decide (x < lo) = false := by simpa using h1
        by_cases h2 : hi < x
        · have d2 : decide (hi < x) = true := by simpa using h2
          have E := Lib.hid (B2.out (inB_not (.inr h2)))
          go_wp2_with fail
          go_quiet (fail)
          go_wp2
          go_ret
          rw [← hw]
          exact ⟨by rw [E.out]; rfl, ((O0.out.drewN q).drewN _).grow⟩
        · have d2 : decide (hi < x) = false := by simpa using h2
          have HS := Lib.hid (SUC.out (inB_of (by omega) (by omega)))
          go_wp2_with fail
          go_quiet (fail)
          go_wp2
          go_roundw
          case rel => exact ⟨j + 1, _, by omega, by have := HE.out; simp; omega, HS.out, by rw [← hw]; exact vl.drewN_drewN u q _⟩
          case measure => have := HE.out; simp [intOf]; omega
    · obtain rfl : j = 6 := by omega
      have E := Lib.hid (ALL.out HI.out)
      go_wp2
      go_ret
      exact ⟨by rw [E.out]; rfl, (O0.out.drewN q).grow⟩

end Go.Proofs.Ytocjbbfeegmkaaa.fl
