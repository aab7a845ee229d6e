/- Texts of one's own, one behind the other: Sf, PkA, Rdr, RdO, RdL1, RdT, RdL2, RdP, RdQ, RdR, RdS, RdG, LqB, LqC, PkB, PkC, PkD, LqD. -/
import Derived.Test.YtinmhefkmjlelaaProg
import Derived.Test.YtinmhefkmjlelaaPz1
import Derived.BigQuiet
import Derived.Deep.QuietTactic
import Derived.IntWalk
import Derived.Deep.RegionHeld3
/- Which configs may be: floor.Check, and the document's own Check and New. -/
namespace Go.Proofs.Ytinmhefkmjlelaa.fl
open Go Go.RowKit Go.Proofs.Ytinmhefkmjlelaa.base Go.Proofs.Ytinmhefkmjlelaa.lg
set_option linter.unusedVariables false

theorem drewN_drewN (w : World) (n m : Nat) : (w.drewN n).drewN m = w.drewN (n + m) := by
  simp [World.drewN, Nat.add_assoc]

/-- Is n from l to m? -/
def inB (n l m : Int) : Bool := decide (l ≤ n) && decide (n ≤ m)
theorem inB_true {n l m : Int} (h : inB n l m = true) : l ≤ n ∧ n ≤ m := by simpa [inB] using h
theorem inB_of {n l m : Int} (h : l ≤ n) (h2 : n ≤ m) : inB n l m = true := by simp [inB, h, h2]
theorem inB_not {n l m : Int} (h : n < l ∨ m < n) : inB n l m = false := by simp [inB]; omega

theorem within_any (n l m : Int) (b : Bool) (h : inB n l m = b) (w : World) : Calls Try.prog 44 #[.int .i64 n, .int .i64 l, .int .i64 m] w fun e w' => e = .returned (.bool b) ∧ w = w' := by
  subst h
  by_cases h1 : l ≤ n
  · have d1 : decide (l ≤ n) = true := by simpa using h1
    have hb : inB n l m = decide (n ≤ m) := by simp [inB, h1]
    rw [hb]
    clear hb h1
    go_enter Try.func44, Try.ntmps44
    go_wp2
    go_ret
    exact ⟨rfl, rfl⟩
  · have d1 : decide (l ≤ n) = false := by simpa using h1
    have hb : inB n l m = false := by simp [inB, h1]
    rw [hb]
    clear hb h1
    go_enter Try.func44, Try.ntmps44
    go_wp2
    go_ret
    exact ⟨rfl, rfl⟩

/-- May a config be? -/
def okC (o t r k m p : Int) : Bool := inB o 1 8 && (inB t 1 6 && (inB r 1 4096 && (inB k 0 255 && (inB m 1 4 && inB p 1 64))))

theorem check_any (o t r k m p : Int) (w : World) : Calls Try.prog 31 #[.agg #[.int .i64 o, .int .i64 t, .int .i64 r, .int .i64 k, .int .i64 m, .int .i64 p]] w fun e w' => e = .returned (.bool (okC o t r k m p)) ∧ Hid (w.grownBy w' none) := by
  by_cases h0 : inB o 1 8 = true
  · have k0 := Lib.hid h0; clear h0
    by_cases h1 : inB t 1 6 = true
    · have k1 := Lib.hid h1; clear h1
      by_cases h2 : inB r 1 4096 = true
      · have k2 := Lib.hid h2; clear h2
        by_cases h3 : inB k 0 255 = true
        · have k3 := Lib.hid h3; clear h3
          by_cases h4 : inB m 1 4 = true
          · have k4 := Lib.hid h4; clear h4
            by_cases h5 : inB p 1 64 = true
            · have k5 := Lib.hid h5; clear h5
              have hb : okC o t r k m p = true := by simp [okC, k0.out, k1.out, k2.out, k3.out, k4.out, k5.out]
              rw [hb]; clear hb
              go_enter Try.func31, Try.ntmps31
              go_wp2_with fail
              refine (within_any o 1 8 _ k0.out _).mono ?_
              rintro e v ⟨rfl, rfl⟩
              go_wp2_with fail
              refine (within_any t 1 6 _ k1.out _).mono ?_
              rintro e v ⟨rfl, rfl⟩
              go_wp2_with fail
              refine (within_any r 1 4096 _ k2.out _).mono ?_
              rintro e v ⟨rfl, rfl⟩
              go_wp2_with fail
              refine (within_any k 0 255 _ k3.out _).mono ?_
              rintro e v ⟨rfl, rfl⟩
              go_wp2_with fail
              refine (within_any m 1 4 _ k4.out _).mono ?_
              rintro e v ⟨rfl, rfl⟩
              go_wp2_with fail
              refine (within_any p 1 64 _ k5.out _).mono ?_
              rintro e v ⟨rfl, rfl⟩
              go_wp2
              go_ret
              exact ⟨rfl, gb_alloc (gb_refl _ _) _⟩
            · have k5 := Lib.hid (Bool.eq_false_iff.2 h5); clear h5
              have hb : okC o t r k m p = false := by simp [okC, k0.out, k1.out, k2.out, k3.out, k4.out, k5.out]
              rw [hb]; clear hb
              go_enter Try.func31, Try.ntmps31
              go_wp2_with fail
              refine (within_any o 1 8 _ k0.out _).mono ?_
              rintro e v ⟨rfl, rfl⟩
              go_wp2_with fail
              refine (within_any t 1 6 _ k1.out _).mono ?_
              rintro e v ⟨rfl, rfl⟩
              go_wp2_with fail
              refine (within_any r 1 4096 _ k2.out _).mono ?_
              rintro e v ⟨rfl, rfl⟩
              go_wp2_with fail
              refine (within_any k 0 255 _ k3.out _).mono ?_
              rintro e v ⟨rfl, rfl⟩
              go_wp2_with fail
              refine (within_any m 1 4 _ k4.out _).mono ?_
              rintro e v ⟨rfl, rfl⟩
              go_wp2_with fail
              refine (within_any p 1 64 _ k5.out _).mono ?_
              rintro e v ⟨rfl, rfl⟩
              go_wp2
              go_ret
              exact ⟨rfl, gb_alloc (gb_refl _ _) _⟩
          · have k4 := Lib.hid (Bool.eq_false_iff.2 h4); clear h4
            have hb : okC o t r k m p = false := by simp [okC, k0.out, k1.out, k2.out, k3.out, k4.out]
            rw [hb]; clear hb
            go_enter Try.func31, Try.ntmps31
            go_wp2_with fail
            refine (within_any o 1 8 _ k0.out _).mono ?_
            rintro e v ⟨rfl, rfl⟩
            go_wp2_with fail
            refine (within_any t 1 6 _ k1.out _).mono ?_
            rintro e v ⟨rfl, rfl⟩
            go_wp2_with fail
            refine (within_any r 1 4096 _ k2.out _).mono ?_
            rintro e v ⟨rfl, rfl⟩
            go_wp2_with fail
            refine (within_any k 0 255 _ k3.out _).mono ?_
            rintro e v ⟨rfl, rfl⟩
            go_wp2_with fail
            refine (within_any m 1 4 _ k4.out _).mono ?_
            rintro e v ⟨rfl, rfl⟩
            go_wp2
            go_ret
            exact ⟨rfl, gb_alloc (gb_refl _ _) _⟩
        · have k3 := Lib.hid (Bool.eq_false_iff.2 h3); clear h3
          have hb : okC o t r k m p = false := by simp [okC, k0.out, k1.out, k2.out, k3.out]
          rw [hb]; clear hb
          go_enter Try.func31, Try.ntmps31
          go_wp2_with fail
          refine (within_any o 1 8 _ k0.out _).mono ?_
          rintro e v ⟨rfl, rfl⟩
          go_wp2_with fail
          refine (within_any t 1 6 _ k1.out _).mono ?_
          rintro e v ⟨rfl, rfl⟩
          go_wp2_with fail
          refine (within_any r 1 4096 _ k2.out _).mono ?_
          rintro e v ⟨rfl, rfl⟩
          go_wp2_with fail
          refine (within_any k 0 255 _ k3.out _).mono ?_
          rintro e v ⟨rfl, rfl⟩
          go_wp2
          go_ret
          exact ⟨rfl, gb_alloc (gb_refl _ _) _⟩
      · have k2 := Lib.hid (Bool.eq_false_iff.2 h2); clear h2
        have hb : okC o t r k m p = false := by simp [okC, k0.out, k1.out, k2.out]
        rw [hb]; clear hb
        go_enter Try.func31, Try.ntmps31
        go_wp2_with fail
        refine (within_any o 1 8 _ k0.out _).mono ?_
        rintro e v ⟨rfl, rfl⟩
        go_wp2_with fail
        refine (within_any t 1 6 _ k1.out _).mono ?_
        rintro e v ⟨rfl, rfl⟩
        go_wp2_with fail
        refine (within_any r 1 4096 _ k2.out _).mono ?_
        rintro e v ⟨rfl, rfl⟩
        go_wp2
        go_ret
        exact ⟨rfl, gb_alloc (gb_refl _ _) _⟩
    · have k1 := Lib.hid (Bool.eq_false_iff.2 h1); clear h1
      have hb : okC o t r k m p = false := by simp [okC, k0.out, k1.out]
      rw [hb]; clear hb
      go_enter Try.func31, Try.ntmps31
      go_wp2_with fail
      refine (within_any o 1 8 _ k0.out _).mono ?_
      rintro e v ⟨rfl, rfl⟩
      go_wp2_with fail
      refine (within_any t 1 6 _ k1.out _).mono ?_
      rintro e v ⟨rfl, rfl⟩
      go_wp2
      go_ret
      exact ⟨rfl, gb_alloc (gb_refl _ _) _⟩
  · have k0 := Lib.hid (Bool.eq_false_iff.2 h0); clear h0
    have hb : okC o t r k m p = false := by simp [okC, k0.out]
    rw [hb]; clear hb
    go_enter Try.func31, Try.ntmps31
    go_wp2_with fail
    refine (within_any o 1 8 _ k0.out _).mono ?_
    rintro e v ⟨rfl, rfl⟩
    go_wp2
    go_ret
    exact ⟨rfl, gb_alloc (gb_refl _ _) _⟩

/-- What the document's Check goes through. -/
def lst (o t r k m p : Int) (i : Nat) : Int := [o, 1, 8, t, 1, 6, r, 1, 4096, k, 0, 255, m, 1, 4, p, 1, 64].getD i 0

theorem okC_bad (o t r k m p : Int) (a : Nat) (ha : a < 6) (h : inB (lst o t r k m p (3 * a)) (lst o t r k m p (3 * a + 1)) (lst o t r k m p (3 * a + 2)) = false) : okC o t r k m p = false := by
  unfold okC
  match a, ha with
  | 0, _ => rw [show inB o 1 8 = false from h]; rfl
  | 1, _ => rw [show inB t 1 6 = false from h]; simp
  | 2, _ => rw [show inB r 1 4096 = false from h]; simp
  | 3, _ => rw [show inB k 0 255 = false from h]; simp
  | 4, _ => rw [show inB m 1 4 = false from h]; simp
  | 5, _ => rw [show inB p 1 64 = false from h]; simp
theorem okC_all (o t r k m p : Int) (h : ∀ a, a < 6 → inB (lst o t r k m p (3 * a)) (lst o t r k m p (3 * a + 1)) (lst o t r k m p (3 * a + 2)) = true) : okC o t r k m p = true := by
  unfold okC
  rw [show inB o 1 8 = true from h 0 (by omega), show inB t 1 6 = true from h 1 (by omega), show inB r 1 4096 = true from h 2 (by omega), show inB k 0 255 = true from h 3 (by omega), show inB m 1 4 = true from h 4 (by omega), show inB p 1 64 = true from h 5 (by omega)]
  rfl

set_option maxHeartbeats 1000000 in
theorem refcheck_any (o t r k m p : Int) (w : World) : Calls Try.prog 21 #[.agg #[.int .i64 o, .int .i64 t, .int .i64 r, .int .i64 k, .int .i64 m, .int .i64 p]] w fun e w' => e = .returned (.bool (okC o t r k m p)) ∧ Hid (w.grownBy w' none) := by
  have O0 : base.Own w ((w.alloc (.cells #[.int .i64 o, .int .i64 t, .int .i64 r, .int .i64 k, .int .i64 m, .int .i64 p] 25)).alloc (.cells #[.int .i64 o, .int .i64 1, .int .i64 8, .int .i64 t, .int .i64 1, .int .i64 6, .int .i64 r, .int .i64 1, .int .i64 4096, .int .i64 k, .int .i64 0, .int .i64 255, .int .i64 m, .int .i64 1, .int .i64 4, .int .i64 p, .int .i64 1, .int .i64 64] 3)) [(w.heap.size + 1, 3, vals (lst o t r k m p) 18), (w.heap.size, 25, [.int .i64 o, .int .i64 t, .int .i64 r, .int .i64 k, .int .i64 m, .int .i64 p])] := by
    have X := ((base.Own.start w).alloc 25 [.int .i64 o, .int .i64 t, .int .i64 r, .int .i64 k, .int .i64 m, .int .i64 p]).alloc 3 [.int .i64 o, .int .i64 1, .int .i64 8, .int .i64 t, .int .i64 1, .int .i64 6, .int .i64 r, .int .i64 1, .int .i64 4096, .int .i64 k, .int .i64 0, .int .i64 255, .int .i64 m, .int .i64 1, .int .i64 4, .int .i64 p, .int .i64 1, .int .i64 64]
    simp only [size_alloc] at X
    exact X
  have O0 := Lib.hid O0
  have BAD := Lib.hid (okC_bad o t r k m p)
  have ALL := Lib.hid (okC_all o t r k m p)
  go_enter Try.func21, Try.ntmps21
  go_wp2_with fail
  generalize (w.alloc _).alloc _ = u at *
  generalize w.heap.size + 1 = sb at *
  generalize w.heap.size = bc at *
  generalize hL : lst o t r k m p = L at *
  clear hL
  go_loopw [4] (fun i wr => ∃ j q : Nat, j ≤ 6 ∧ i = .int .i64 ((3 * j : Nat) : Int) ∧ (∀ a, a < j → inB (L (3 * a)) (L (3 * a + 1)) (L (3 * a + 2)) = true) ∧ wr = u.drewN q) (fun i _ => (18 - intOf i).toNat)
  case atStart => exact ⟨0, 0, by omega, rfl, fun a h => by omega, rfl⟩
  case round =>
    obtain ⟨j, q, hj, rfl, hin, rfl⟩ := hrel
    have HI := Lib.hid hin
    clear hin
    by_cases hlt : j < 6
    · obtain ⟨I, hI⟩ : ∃ I : Nat, I = 3 * j := ⟨_, rfl⟩
      have c0 : (u.drewN q).cell? ⟨sb, I, none⟩ = some (.int .i64 (L I)) := (O0.out.drewN q).cell 0 I rfl (vals_get L 18 I (by omega))
      have c1 : (u.drewN q).cell? ⟨sb, I + 1, none⟩ = some (.int .i64 (L (I + 1))) := (O0.out.drewN q).cell 0 (I + 1) rfl (vals_get L 18 (I + 1) (by omega))
      have c2 : (u.drewN q).cell? ⟨sb, I + 2, none⟩ = some (.int .i64 (L (I + 2))) := (O0.out.drewN q).cell 0 (I + 2) rfl (vals_get L 18 (I + 2) (by omega))
      have w1 : IntKind.i64.wrap ((I : Int) + 1) = (I : Int) + 1 := IntWalk.i64_in _ (by omega)
      have w2 : IntKind.i64.wrap ((I : Int) + 2) = (I : Int) + 2 := IntWalk.i64_in _ (by omega)
      have w3 : IntKind.i64.wrap ((I : Int) + 3) = (I : Int) + 3 := IntWalk.i64_in _ (by omega)
      have i0 : (0 : Int) ≤ (I : Int) := by omega
      have i1 : (I : Int) < 18 := by omega
      have i2 : (0 : Int) ≤ (I : Int) + 1 := by omega
      have i3 : (I : Int) + 1 < 18 := by omega
      have i4 : (0 : Int) ≤ (I : Int) + 2 := by omega
      have i5 : (I : Int) + 2 < 18 := by omega
      have B2 := Lib.hid (BAD.out j hlt)
      rw [← hI] at B2
      have SUC : Hid (inB (L I) (L (I + 1)) (L (I + 2)) = true → ∀ a, a < j + 1 → inB (L (3 * a)) (L (3 * a + 1)) (L (3 * a + 2)) = true) := fun h a ha => by
        by_cases e : a = j
        · subst e; rw [← hI]; exact h
        · exact HI.out a (by omega)
      rw [← hI]
      have HE := Lib.hid hI
      clear hI
      generalize L (I + 2) = hi at *
      generalize L (I + 1) = lo at *
      generalize L I = x at *
      generalize hw : u.drewN q = v at *
      by_cases h1 : x < lo
      · have d1 : decide (x < lo) = true := by simpa using h1
        have E := Lib.hid (B2.out (inB_not (.inl h1)))
        go_wp2_with fail
        go_quiet (fail)
        go_wp2
        go_ret
        rw [← hw]
        exact ⟨by rw [E.out]; rfl, ((O0.out.drewN q).drewN _).grow⟩
      · have d1 : decide (x < lo) = false := by simpa using h1
        by_cases h2 : hi < x
        · have d2 : decide (hi < x) = true := by simpa using h2
          have E := Lib.hid (B2.out (inB_not (.inr h2)))
          go_wp2_with fail
          go_quiet (fail)
          go_wp2
          go_ret
          rw [← hw]
          exact ⟨by rw [E.out]; rfl, ((O0.out.drewN q).drewN _).grow⟩
        · have d2 : decide (hi < x) = false := by simpa using h2
          have HS := Lib.hid (SUC.out (inB_of (by omega) (by omega)))
          go_wp2_with fail
          go_quiet (fail)
          go_wp2
          go_roundw
          case rel => exact ⟨j + 1, _, by omega, by have := HE.out; simp; omega, HS.out, by rw [← hw]; exact drewN_drewN u q _⟩
          case measure => have := HE.out; simp [intOf]; omega
    · obtain rfl : j = 6 := by omega
      have E := Lib.hid (ALL.out HI.out)
      go_wp2
      go_ret
      exact ⟨by rw [E.out]; rfl, (O0.out.drewN q).grow⟩

/-- The document's error of a floor. -/
def errF (o t r k m p len : Int) : Int := if okC o t r k m p = true then (if len = o then (if r < 2 * len then 4 else 0) else 3) else 2

theorem refnew_any (o t r k m p : Int) (a : Option Addr) (len cap : Nat) (hl : len ≤ 1000) (w : World) : Calls Try.prog 27 #[.agg #[.int .i64 o, .int .i64 t, .int .i64 r, .int .i64 k, .int .i64 m, .int .i64 p], .slice a len cap] w fun e w' => e = .returned (.int .i64 (errF o t r k m p len)) ∧ Hid (w.grownBy w' none) := by
  have O0 := Lib.hid ((base.Own.start w).alloc 25 [.int .i64 o, .int .i64 t, .int .i64 r, .int .i64 k, .int .i64 m, .int .i64 p])
  have CK := Lib.hid (fun u => refcheck_any o t r k m p u)
  have hw : IntKind.i64.wrap (2 * (len : Int)) = 2 * (len : Int) := IntWalk.i64_in _ (by omega)
  by_cases h1 : okC o t r k m p = true
  · rw [h1] at CK
    by_cases h2 : (len : Int) = o
    · have e2 : ((len : Int) != o) = false := by simpa using h2
      by_cases h3 : r < 2 * (len : Int)
      · have E := Lib.hid (show errF o t r k m p len = 4 by unfold errF; rw [if_pos h1, if_pos h2, if_pos h3])
        clear h1 h2
        go_enter Try.func27, Try.ntmps27
        go_wp2_with fail
        refine (CK.out _).mono ?_
        rintro e v ⟨rfl, g⟩
        have O1 := Lib.hid (O0.out.grown g.out)
        have c0 := O1.out.cell 0 0 rfl rfl; have c1 := O1.out.cell 0 1 rfl rfl; have c2 := O1.out.cell 0 2 rfl rfl; have c3 := O1.out.cell 0 3 rfl rfl; have c4 := O1.out.cell 0 4 rfl rfl; have c5 := O1.out.cell 0 5 rfl rfl
        go_wp2
        go_ret
        exact ⟨by rw [E.out]; rfl, O1.out.grow⟩
      · have E := Lib.hid (show errF o t r k m p len = 0 by unfold errF; rw [if_pos h1, if_pos h2, if_neg h3])
        clear h1 h2
        go_enter Try.func27, Try.ntmps27
        go_wp2_with fail
        refine (CK.out _).mono ?_
        rintro e v ⟨rfl, g⟩
        have O1 := Lib.hid (O0.out.grown g.out)
        have c0 := O1.out.cell 0 0 rfl rfl; have c1 := O1.out.cell 0 1 rfl rfl; have c2 := O1.out.cell 0 2 rfl rfl; have c3 := O1.out.cell 0 3 rfl rfl; have c4 := O1.out.cell 0 4 rfl rfl; have c5 := O1.out.cell 0 5 rfl rfl
        go_wp2
        go_ret
        exact ⟨by rw [E.out]; rfl, O1.out.grow⟩
    · have e2 : ((len : Int) != o) = true := by simpa using h2
      have E := Lib.hid (show errF o t r k m p len = 3 by unfold errF; rw [if_pos h1, if_neg h2])
      clear h1 h2
      go_enter Try.func27, Try.ntmps27
      go_wp2_with fail
      refine (CK.out _).mono ?_
      rintro e v ⟨rfl, g⟩
      have O1 := Lib.hid (O0.out.grown g.out)
      have c0 := O1.out.cell 0 0 rfl rfl; have c1 := O1.out.cell 0 1 rfl rfl; have c2 := O1.out.cell 0 2 rfl rfl; have c3 := O1.out.cell 0 3 rfl rfl; have c4 := O1.out.cell 0 4 rfl rfl; have c5 := O1.out.cell 0 5 rfl rfl
      go_wp2
      go_ret
      exact ⟨by rw [E.out]; rfl, O1.out.grow⟩
  · have h1' : okC o t r k m p = false := Bool.eq_false_iff.2 h1
    rw [h1'] at CK
    have E := Lib.hid (show errF o t r k m p len = 2 by unfold errF; rw [if_neg h1])
    clear h1 h1'
    go_enter Try.func27, Try.ntmps27
    go_wp2_with fail
    refine (CK.out _).mono ?_
    rintro e v ⟨rfl, g⟩
    have O1 := Lib.hid (O0.out.grown g.out)
    go_wp2
    go_ret
    exact ⟨by rw [E.out]; rfl, O1.out.grow⟩

end Go.Proofs.Ytinmhefkmjlelaa.fl

/- Package script's Ok: within, rightAll. -/
namespace Go.Proofs.Ytinmhefkmjlelaa.sc
open Go Go.RowKit Go.Proofs.Ytinmhefkmjlelaa.base Go.Proofs.Ytinmhefkmjlelaa.lg Go.Proofs.Ytinmhefkmjlelaa.md Go.Proofs.Ytinmhefkmjlelaa.fl
set_option linter.unusedVariables false
set_option linter.unusedSimpArgs false
set_option maxRecDepth 100000

theorem all_succ {α : Type} {p : α → Bool} {l : List α} {k : Nat} {x : α} (h : l[k]? = some x) : (l.take (k + 1)).all p = ((l.take k).all p && p x) := by
  rw [List.take_add_one, h]
  simp

theorem all_bad {α : Type} {p : α → Bool} {l : List α} {k : Nat} {x : α} (h : l[k]? = some x) (hp : p x = false) : l.all p = false := by
  rw [List.all_eq_false]
  exact ⟨x, List.mem_of_getElem? h, by simp [hp]⟩

theorem at0_get {l : List Int} {k : Nat} (h : k < l.length) : l[k]? = some (at0 l k) := by
  unfold at0
  rw [List.getD_eq_getElem?_getD, List.getElem?_eq_getElem h]
  rfl

/-- Are all of a list within? -/
def inR (lo hi : Int) (l : List Int) : Bool := l.all fun x => decide (lo ≤ x ∧ x ≤ hi)

theorem within64 (a : Option Addr) (c : Nat) (l : List Int) (lo hi : Int) (w : World) (hz : IsNums .i64 w a l.length (at0 l)) (hl : l.length ≤ 100000) : Calls Try.prog 33 #[.slice a l.length c, .int .i64 lo, .int .i64 hi] w fun r w' => r = .returned (.bool (inR lo hi l)) ∧ Hid (w.grownBy w' none) := by
  have Z := Lib.hid hz
  clear hz
  obtain ⟨bb, hbb⟩ : ∃ bb, bb = inR lo hi l := ⟨_, rfl⟩
  rw [← hbb]
  have HB := Lib.hid hbb
  clear hbb
  go_enter Try.func33, Try.ntmps33
  go_wp2_with fail
  go_loopw [11] (fun iv wr => ∃ k : Nat, k ≤ l.length ∧ iv = .int .i64 k ∧ Hid ((l.take k).all (fun x => decide (lo ≤ x ∧ x ≤ hi)) = true) ∧ Hid (w.grownBy wr none)) (fun iv _ => (l.length - intOf iv).toNat)
  case atStart => exact ⟨0, by omega, rfl, by simp [Lib.hid, Hid], gb_refl _ _⟩
  case round =>
    obtain ⟨k, hk, rfl, T, G⟩ := hrel
    by_cases hlt : k < l.length
    · have hltI : (k : Int) < (l.length : Int) := by omega
      obtain ⟨b, off, rfl, hb, cx⟩ := (Z.out.grown G.out).at1 hlt
      have HX := Lib.hid (at0_get hlt)
      generalize at0 l k = x at *
      by_cases h1 : x < lo
      · have EE := Lib.hid (HB.out.trans (all_bad HX.out (by simp; omega)))
        go_wp2
        go_ret
        exact ⟨by rw [EE.out]; rfl, G⟩
      by_cases h2 : hi < x
      · have EE := Lib.hid (HB.out.trans (all_bad HX.out (by simp; omega)))
        have h1d : decide (x < lo) = false := by simp; omega
        go_wp2
        go_ret
        exact ⟨by rw [EE.out]; rfl, G⟩
      · have T2 := Lib.hid (show (l.take (k + 1)).all (fun x => decide (lo ≤ x ∧ x ≤ hi)) = true by rw [all_succ HX.out, T.out]; simp; omega)
        have h1d : decide (x < lo) = false := by simp; omega
        have h2d : decide (hi < x) = false := by simp; omega
        go_wp2
        go_roundw
        case rel => exact ⟨k + 1, by omega, by go_num, T2, G⟩
        case measure => simp [intOf]; omega
    · obtain rfl : k = l.length := by omega
      have EE := Lib.hid (show bb = true by rw [HB.out]; have := T.out; rwa [List.take_length] at this)
      go_wp2
      go_ret
      exact ⟨by rw [EE.out]; rfl, G⟩

theorem withinI (a : Option Addr) (c : Nat) (l : List Int) (lo hi : Int) (w : World) (hz : IsNums .i64 w a l.length (at0 l)) (hl : l.length ≤ 100000) : Calls Try.prog 35 #[.slice a l.length c, .int .i64 lo, .int .i64 hi] w fun r w' => r = .returned (.bool (inR lo hi l)) ∧ Hid (w.grownBy w' none) := by
  have Z := Lib.hid hz
  clear hz
  obtain ⟨bb, hbb⟩ : ∃ bb, bb = inR lo hi l := ⟨_, rfl⟩
  rw [← hbb]
  have HB := Lib.hid hbb
  clear hbb
  go_enter Try.func35, Try.ntmps35
  go_wp2_with fail
  go_loopw [11] (fun iv wr => ∃ k : Nat, k ≤ l.length ∧ iv = .int .i64 k ∧ Hid ((l.take k).all (fun x => decide (lo ≤ x ∧ x ≤ hi)) = true) ∧ Hid (w.grownBy wr none)) (fun iv _ => (l.length - intOf iv).toNat)
  case atStart => exact ⟨0, by omega, rfl, by simp [Lib.hid, Hid], gb_refl _ _⟩
  case round =>
    obtain ⟨k, hk, rfl, T, G⟩ := hrel
    by_cases hlt : k < l.length
    · have hltI : (k : Int) < (l.length : Int) := by omega
      obtain ⟨b, off, rfl, hb, cx⟩ := (Z.out.grown G.out).at1 hlt
      have HX := Lib.hid (at0_get hlt)
      generalize at0 l k = x at *
      by_cases h1 : x < lo
      · have EE := Lib.hid (HB.out.trans (all_bad HX.out (by simp; omega)))
        go_wp2
        go_ret
        exact ⟨by rw [EE.out]; rfl, G⟩
      by_cases h2 : hi < x
      · have EE := Lib.hid (HB.out.trans (all_bad HX.out (by simp; omega)))
        have h1d : decide (x < lo) = false := by simp; omega
        go_wp2
        go_ret
        exact ⟨by rw [EE.out]; rfl, G⟩
      · have T2 := Lib.hid (show (l.take (k + 1)).all (fun x => decide (lo ≤ x ∧ x ≤ hi)) = true by rw [all_succ HX.out, T.out]; simp; omega)
        have h1d : decide (x < lo) = false := by simp; omega
        have h2d : decide (hi < x) = false := by simp; omega
        go_wp2
        go_roundw
        case rel => exact ⟨k + 1, by omega, by go_num, T2, G⟩
        case measure => simp [intOf]; omega
    · obtain rfl : k = l.length := by omega
      have EE := Lib.hid (show bb = true by rw [HB.out]; have := T.out; rwa [List.take_length] at this)
      go_wp2
      go_ret
      exact ⟨by rw [EE.out]; rfl, G⟩

set_option maxHeartbeats 1000000 in
theorem rightAll_any (v : Value) (A : List (List (List Op3))) (n : Int) (w : World) (hA : AllAt w A v) (hl : A.length ≤ 100000) : Calls Try.prog 34 #[v, .int .i64 n] w fun r w' => r = .returned (.bool (A.all (thOk n))) ∧ Hid (w.grownBy w' none) := by
  obtain ⟨a, c, rfl, hz⟩ := hA
  have Z := Lib.hid hz
  clear hz
  obtain ⟨bb, hbb⟩ : ∃ bb, bb = A.all (thOk n) := ⟨_, rfl⟩
  rw [← hbb]
  have HB := Lib.hid hbb
  clear hbb
  go_enter Try.func34, Try.ntmps34
  go_wp2_with fail
  go_loopw [11] (fun iv wr => ∃ k : Nat, k ≤ A.length ∧ iv = .int .i64 k ∧ Hid ((A.take k).all (thOk n) = true) ∧ Hid (w.grownBy wr none)) (fun iv _ => (A.length - intOf iv).toNat)
  case atStart => exact ⟨0, by omega, rfl, by simp [Lib.hid, Hid], gb_refl _ _⟩
  case round =>
    obtain ⟨k, hk, rfl, T, G⟩ := hrel
    by_cases hlt : k < A.length
    · have hltI : (k : Int) < (A.length : Int) := by omega
      obtain ⟨t, ht⟩ : ∃ t, A[k]? = some t := ⟨_, List.getElem?_eq_getElem hlt⟩
      have HX := Lib.hid ht
      obtain ⟨b, off, v, rfl, hb, cx, a2, c2, rfl, Z2⟩ := Z.out.at ht
      have cx := G.out.cell cx (by simp)
      have Y := Lib.hid Z2
      clear ht Z2
      by_cases h6 : 6 < t.length
      · have EE := Lib.hid (HB.out.trans (all_bad HX.out (by unfold thOk; simp; omega)))
        have h6I : (6 : Int) < (t.length : Int) := by omega
        go_wp2
        go_ret
        exact ⟨by rw [EE.out]; rfl, G⟩
      have h6d : decide ((6 : Int) < (t.length : Int)) = false := by simp; omega
      go_wp2_with fail
      go_loopw [20] (fun jv wr2 => ∃ m : Nat, m ≤ t.length ∧ jv = .int .i64 m ∧ Hid ((t.take m).all (txOk n) = true) ∧ Hid (w.grownBy wr2 none)) (fun jv _ => (t.length - intOf jv).toNat)
      case atStart => exact ⟨0, by omega, rfl, by simp [Lib.hid, Hid], G⟩
      case round =>
        obtain ⟨m, hm, rfl, T1, G1⟩ := hrel
        by_cases hmt : m < t.length
        · have hmtI : (m : Int) < (t.length : Int) := by omega
          obtain ⟨x, hx⟩ : ∃ x, t[m]? = some x := ⟨_, List.getElem?_eq_getElem hmt⟩
          have HY := Lib.hid hx
          obtain ⟨b2, off2, v2, e2, hb2, cy, a3, c3, rfl, Z3⟩ := Y.out.at hx
          cases e2
          have cy := G1.out.cell cy (by simp)
          have RA := Lib.hid (rightB_opZ x n ▸ right_any a3 x.length c3 (opZ x) n wr (Z3.grown G1.out))
          clear hx Z3 cx
          go_wp2_with fail
          refine RA.out.mono ?_
          rintro r u ⟨rfl, g⟩
          have G2 := Lib.hid (gb_trans G1.out g.out)
          cases htx : txOk n x with
          | false =>
            have EE := Lib.hid (HB.out.trans (all_bad HX.out (by unfold thOk; rw [all_bad HY.out htx]; simp)))
            go_wp2
            go_ret
            exact ⟨by rw [EE.out]; rfl, G2⟩
          | true =>
            have T2 := Lib.hid (show (t.take (m + 1)).all (txOk n) = true by rw [all_succ HY.out, T1.out, htx]; rfl)
            go_wp2
            go_roundw
            case rel => exact ⟨m + 1, by omega, by go_num, T2, G2⟩
            case measure => simp [intOf]; omega
        · obtain rfl : m = t.length := by omega
          have T2 := Lib.hid (show (A.take (k + 1)).all (thOk n) = true by
            rw [all_succ HX.out, T.out]
            have := T1.out
            rw [List.take_length] at this
            unfold thOk
            rw [this]
            simp
            omega)
          go_wp2
          go_roundw
          case rel => exact ⟨k + 1, by omega, by go_num, T2, G1⟩
          case measure => simp [intOf]; omega
    · obtain rfl : k = A.length := by omega
      have EE := Lib.hid (show bb = true by rw [HB.out]; have := T.out; rwa [List.take_length] at this)
      go_wp2
      go_ret
      exact ⟨by rw [EE.out]; rfl, G⟩
end Go.Proofs.Ytinmhefkmjlelaa.sc

/- Package script's reader: a place that goes through bytes. -/
namespace Go.Proofs.Ytinmhefkmjlelaa.sc
open Go Go.RowKit Go.Proofs.Ytinmhefkmjlelaa.base Go.Proofs.Ytinmhefkmjlelaa.lg Go.Proofs.Ytinmhefkmjlelaa.md
set_option linter.unusedVariables false
set_option linter.unusedSimpArgs false
set_option maxRecDepth 100000

/-- The reader's cells. -/
def rdC (a : Option Addr) (n cap i : Nat) (S : List Value) : List Value := .slice a n cap :: .int .i64 (i : Int) :: S

/-- A reader in block rb stands at place i of the bytes L. -/
structure Rdr (w : World) (rb : Nat) (a : Option Addr) (cap : Nat) (L : List Int) (i : Nat) (S : List Value) : Prop where
  blk : Blk 53 w rb ⟨rdC a L.length cap i S⟩
  byt : IsB w a L
  ne0 : L.length = 0 ∨ ∀ b off, a = some ⟨b, off, none⟩ → b ≠ rb
  capl : L.length ≤ cap ∧ cap ≤ maxLen
  len : L.length ≤ 100000

theorem gb_weak {w w' : World} {r : Option Nat} (g : w.grownBy w' none) : w.grownBy w' r := ⟨g.os, g.tape, g.output, g.size, fun k hk _ => g.block k hk (by simp)⟩

theorem gb_overR {a b c : World} {r q : Option Nat} (h : a.grownBy b r) (k : b.grownBy c q) (hi : ∀ i, q = some i → a.heap.size ≤ i) : a.grownBy c r := ⟨k.os.trans h.os, k.tape.trans h.tape, k.output.trans h.output, Nat.le_trans h.size k.size, fun i hl hn => by
  have h1 := h.block i hl hn
  refine (k.block i (Nat.lt_of_lt_of_le hl h.size) fun e => ?_).trans h1
  have := hi i e.symm
  omega⟩

section
variable {w w' : World} {rb : Nat} {a : Option Addr} {cap i j : Nat} {L : List Int} {S S' : List Value}
theorem Rdr.to (h : Rdr w rb a cap L i S) (g : w.grownBy w' (some rb)) (hb : Blk 53 w' rb ⟨rdC a L.length cap j S'⟩) : Rdr w' rb a cap L j S' :=
  ⟨hb, ⟨h.ne0.elim (fun h0 => .inl h0) fun hn => h.byt.1.keep (fun b off e hlt => g.block b hlt (by simpa using hn b off e)) g.size, h.byt.2⟩, h.ne0, h.capl, h.len⟩

theorem Rdr.ne (h : Rdr w rb a cap L i S) {j : Nat} (hj : j < L.length) : ∀ b off, a = some ⟨b, off, none⟩ → b ≠ rb := by
  rcases h.ne0 with h0 | h0
  · omega
  · exact h0

theorem Rdr.grown (h : Rdr w rb a cap L i S) (g : w.grownBy w' none) : Rdr w' rb a cap L i S := h.to (gb_weak g) (h.blk.grown g (by simp))

theorem Rdr.drew (h : Rdr w rb a cap L i S) : Rdr w.drew rb a cap L i S := h.grown (gb_drew (gb_refl _ _))

theorem Rdr.drewN (h : Rdr w rb a cap L i S) (n : Nat) : Rdr (w.drewN n) rb a cap L i S := h.grown (gb_drewN (gb_refl _ _) n)

theorem Rdr.put (h : Rdr w rb a cap L i S) (j : Nat) : Rdr (w.setCell ⟨rb, 1, none⟩ (.int .i64 (j : Int))) rb a cap L j S :=
  h.to (gb_setB (gb_refl _ _) _) (by simpa [rdC] using h.blk.set 1 (.int .i64 (j : Int)))

theorem Rdr.cell0 (h : Rdr w rb a cap L i S) : w.cell? ⟨rb, 0, none⟩ = some (.slice a L.length cap) := by
  rw [h.blk.cell 0]
  rfl

theorem Rdr.cell1 (h : Rdr w rb a cap L i S) : w.cell? ⟨rb, 1, none⟩ = some (.int .i64 (i : Int)) := by
  rw [h.blk.cell 1]
  rfl

/-- Rows stand while the reader goes on. -/
theorem Rdr.keepT (h : Rdr w rb a cap L i S) (g : w.grownBy w' (some rb)) : KeepT (fun t => t ≠ 53) w w' := ⟨g.size, fun k cs t hk hp => g.block k (lt_of_block hk) fun e => by
  cases e
  have := h.blk
  unfold Blk at this
  rw [hk] at this
  injection this with this
  injection this with _ h3
  exact hp h3⟩
end

/-- What a reading function answers. -/
def RdA (w : World) (rb : Nat) (a : Option Addr) (cap : Nat) (L : List Int) (S : List Value) {α : Type} (p : Part α) (V : World → α → Value → Prop) (z : Value) (i : Nat) (r : Ending) (w' : World) : Prop :=
  Hid (w.grownBy w' (some rb)) ∧ ((∃ (x : α) (j : Nat) (v : Value), r = .returned (.tuple #[v, .int .i64 0]) ∧ Hid (p L i = .ok (x, j)) ∧ j ≤ L.length ∧ Hid (Rdr w' rb a cap L j S) ∧ Hid (V w' x v)) ∨ (∃ (pl : Nat) (er : Int), r = .returned (.tuple #[z, .int .i64 er]) ∧ er ≠ 0 ∧ Hid (p L i = .error (pl, er)) ∧ Hid (Rdr w' rb a cap L pl S)))

theorem ahead_short (w : World) (rb : Nat) (a : Option Addr) (cap i : Nat) (L : List Int) (S : List Value) (h : Rdr w rb a cap L i S) (n : Nat) (m : Int) (hm : m = n) (hn : L.length < i + n) (hi : i ≤ L.length) : Calls Try.prog 46 #[.pointer (some ⟨rb, 0, none⟩), .int .i64 m] w fun r w' => r = .returned (.tuple #[.slice none 0 0, .int .i64 9]) ∧ Hid (w.grownBy w' (some rb)) ∧ Hid (Rdr w' rb a cap L L.length S) := by
  have H := Lib.hid h
  have c0 := h.cell0
  have c1 := h.cell1
  have f1 := h.blk.free 1
  have lb := h.blk.lt
  have hl := h.len
  have hd : decide ((L.length : Int) - (i : Int) < m) = true := by simp; omega
  have hr := Lib.hid (show ((L.length : Int) - (i : Int) < m) from by omega)
  clear h
  go_enter Try.func46, Try.ntmps46
  go_wp2_with fail
  go_quiet (fail)
  go_wp2
  go_ret2
  exact ⟨rfl, gb_setB (by first | exact gb_drewN (gb_refl _ _) _ | exact gb_drew (gb_refl _ _) | exact gb_refl _ _) _, Rdr.put (by first | exact H.out.drewN _ | exact H.out.drew | exact H.out) _⟩

theorem ahead_ok (w : World) (rb b off : Nat) (cap i : Nat) (L : List Int) (S : List Value) (h : Rdr w rb (some ⟨b, off, none⟩) cap L i S) (n : Nat) (m : Int) (hm : m = n) (h0 : 0 < n) (hn : i + n ≤ L.length) : Calls Try.prog 46 #[.pointer (some ⟨rb, 0, none⟩), .int .i64 m] w fun r w' => r = .returned (.tuple #[.slice (some ⟨b, off + i, none⟩) n (cap - i), .int .i64 0]) ∧ Hid (w.grownBy w' none) := by
  have H := Lib.hid h
  have c0 := h.cell0
  have c1 := h.cell1
  have lb := h.blk.lt
  have hl := h.len
  have hc := h.capl
  subst hm
  have hci : i < cap := by omega
  have hci0 : ¬ cap = i := by omega
  have hci1 : cap ≠ i := by omega
  have hci2 : ¬ cap - i = 0 := by omega
  have hci3 : (cap == i) = false := by simp; omega
  have hd : decide ((L.length : Int) - (i : Int) < (n : Int)) = false := by simp; omega
  have hr := Lib.hid (show ¬ ((L.length : Int) - (i : Int) < (n : Int)) from by omega)
  clear h
  go_enter Try.func46, Try.ntmps46
  go_wp2_with fail
  go_quiet (fail)
  go_wp2_with fail
  go_quiet (fail)
  go_wp2
  go_ret2
  refine ⟨?_, gb_drewN (gb_drewN (gb_refl _ _) _) _⟩
  show Ending.returned (.tuple #[.slice (some ⟨b, off + i, none⟩) (i + n - i) (cap - i), .int .i64 0]) = _
  rw [Nat.add_sub_cancel_left]

theorem Rdr.putI {w : World} {rb : Nat} {a : Option Addr} {cap i : Nat} {L : List Int} {S : List Value} (h : Rdr w rb a cap L i S) (j : Nat) (v : Int) (hv : v = j) : Rdr (w.setCell ⟨rb, 1, none⟩ (.int .i64 v)) rb a cap L j S := hv ▸ h.put j

theorem next_any (w : World) (rb : Nat) (a : Option Addr) (cap i : Nat) (L : List Int) (S : List Value) (h : Rdr w rb a cap L i S) (hi : i ≤ L.length) : Calls Try.prog 53 #[.pointer (some ⟨rb, 0, none⟩)] w (RdA w rb a cap L S byteP (fun _ x v => v = .int .u8 x ∧ 0 ≤ x ∧ x ≤ 255) (.int .u8 0) i) := by
  have H := Lib.hid h
  clear h
  by_cases hs : L.length ≤ i
  · have E := Lib.hid (show byteP L i = .error (L.length, 9) by unfold byteP; rw [if_pos hs])
    go_enter Try.func53, Try.ntmps53
    go_wp2_with fail
    refine (ahead_short w rb a cap i L S H.out 1 1 rfl (by omega) hi).mono ?_
    rintro r u ⟨rfl, g, R⟩
    go_wp2
    go_ret2
    exact ⟨g, .inr ⟨_, _, rfl, by decide, E, R⟩⟩
  · have hil : i < L.length := by omega
    obtain ⟨b, off, rfl, _, _⟩ := H.out.byt.1.at1 hil
    have E := Lib.hid (show byteP L i = .ok (at0 L i, i + 1) by unfold byteP; rw [if_neg hs])
    have lx := at0_byte H.out.byt.2 hil
    go_enter Try.func53, Try.ntmps53
    go_wp2_with fail
    refine (ahead_ok w rb b off cap i L S H.out 1 1 rfl (by decide) (by omega)).mono ?_
    rintro r u ⟨rfl, g⟩
    have R := Lib.hid (H.out.grown g.out)
    have c1 := R.out.cell1
    have f1 := R.out.blk.free 1
    have lb := R.out.blk.lt
    have hl := R.out.len
    obtain ⟨_, _, e1, _, cx⟩ := R.out.byt.1.at1 hil
    cases e1
    have nb := R.out.ne hil b off rfl
    generalize at0 L i = x at *
    go_wp2
    go_ret2
    exact ⟨gb_setB (gb_weak g.out) _, .inl ⟨x, i + 1, _, rfl, E, hil, R.out.putI (i + 1) _ (by omega), rfl, lx⟩⟩

theorem sg_of_byte {L : List Int} {i j : Nat} {x : Int} (h : byteP L i = .ok (x, j)) : sgP L i = .ok (sg x, j) := by
  unfold byteP at h
  unfold sgP
  split at h
  · cases h
  · next h1 =>
    cases h
    rw [if_neg h1]

theorem sg_of_err {L : List Int} {i : Nat} {e : Nat × Int} (h : byteP L i = .error e) : sgP L i = .error e := by
  unfold byteP at h
  unfold sgP
  split at h
  · next h1 =>
    cases h
    rw [if_pos h1]
  · cases h

theorem i8_sg {x : Int} (h : 0 ≤ x ∧ x ≤ 255) : IntKind.i8.wrap x = sg x := by
  have h1 : x % 256 = x := by omega
  have h2 : IntKind.i8.wrap x = if 128 ≤ x % 256 then x % 256 - 256 else x % 256 := by simp only [IntKind.wrap, show IntKind.i8.signed = true from rfl, show IntKind.i8.bits = 8 from rfl, Bool.true_and, decide_eq_true_eq]; rfl
  rw [h2, h1]
  unfold sg
  split <;> split <;> omega

theorem value_any (w : World) (rb : Nat) (a : Option Addr) (cap i : Nat) (L : List Int) (S : List Value) (h : Rdr w rb a cap L i S) (hi : i ≤ L.length) : Calls Try.prog 48 #[.pointer (some ⟨rb, 0, none⟩)] w (RdA w rb a cap L S sgP (fun _ x v => v = .int .i64 x) (.int .i64 0) i) := by
  have H := Lib.hid h
  clear h
  go_enter Try.func48, Try.ntmps48
  go_wp2_with fail
  refine (next_any w rb a cap i L S H.out hi).mono ?_
  rintro r u ⟨g, ⟨x, j, v, rfl, E, hj, R, HV⟩ | ⟨pl, er, rfl, he, E, R⟩⟩
  · obtain ⟨rfl, lx⟩ := HV.out
    have e1 := i8_sg lx
    have e2 : IntKind.i64.wrap (sg x) = sg x := IntWalk.i64_in _ (by have := sg_range lx; omega)
    have EE := Lib.hid (sg_of_byte E.out)
    clear HV
    go_wp2
    go_ret2
    exact ⟨g, .inl ⟨sg x, j, _, rfl, EE, hj, R, rfl⟩⟩
  · have EE := Lib.hid (sg_of_err E.out)
    go_wp2
    go_ret2
    exact ⟨g, .inr ⟨pl, er, rfl, he, EE, R⟩⟩

theorem pick_any (w : World) (rb : Nat) (a : Option Addr) (cap i : Nat) (L : List Int) (S : List Value) (h : Rdr w rb a cap L i S) (hi : i ≤ L.length) : Calls Try.prog 55 #[.pointer (some ⟨rb, 0, none⟩)] w (RdA w rb a cap L S byteP (fun _ x v => v = .int .i64 x) (.int .i64 0) i) := by
  have H := Lib.hid h
  clear h
  go_enter Try.func55, Try.ntmps55
  go_wp2_with fail
  refine (next_any w rb a cap i L S H.out hi).mono ?_
  rintro r u ⟨g, ⟨x, j, v, rfl, E, hj, R, HV⟩ | ⟨pl, er, rfl, he, E, R⟩⟩
  · obtain ⟨rfl, l1, l2⟩ := HV.out
    have e2 : IntKind.i64.wrap x = x := IntWalk.i64_in _ (by omega)
    clear HV
    go_wp2
    go_ret2
    exact ⟨g, .inl ⟨x, j, _, rfl, E, hj, R, rfl⟩⟩
  · go_wp2
    go_ret2
    exact ⟨g, .inr ⟨pl, er, rfl, he, E, R⟩⟩

/-- A number of things, from lo to hi. -/
def cntP (lo hi : Int) : Part Int := fun L i => if L.length ≤ i then .error (L.length, 9) else if at0 L i < lo ∨ hi < at0 L i then .error (i, 3) else .ok (at0 L i, i + 1)

theorem count_any (w : World) (rb : Nat) (a : Option Addr) (cap i : Nat) (L : List Int) (S : List Value) (h : Rdr w rb a cap L i S) (hi : i ≤ L.length) (lo hi' : Int) : Calls Try.prog 51 #[.pointer (some ⟨rb, 0, none⟩), .int .i64 lo, .int .i64 hi'] w (RdA w rb a cap L S (cntP lo hi') (fun _ x v => v = .int .i64 x ∧ (0 ≤ x ∧ x ≤ 255) ∧ lo ≤ x ∧ x ≤ hi') (.int .i64 0) i) := by
  have H := Lib.hid h
  clear h
  by_cases hs : L.length ≤ i
  · have E := Lib.hid (show cntP lo hi' L i = .error (L.length, 9) by unfold cntP; rw [if_pos hs])
    go_enter Try.func51, Try.ntmps51
    go_wp2_with fail
    refine (ahead_short w rb a cap i L S H.out 1 1 rfl (by omega) hi).mono ?_
    rintro r u ⟨rfl, g, R⟩
    go_wp2
    go_ret2
    exact ⟨g, .inr ⟨_, _, rfl, by decide, E, R⟩⟩
  · have hil : i < L.length := by omega
    obtain ⟨b, off, rfl, _, _⟩ := H.out.byt.1.at1 hil
    have lx := at0_byte H.out.byt.2 hil
    have E1 := Lib.hid (show at0 L i < lo ∨ hi' < at0 L i → cntP lo hi' L i = .error (i, 3) from fun h => by unfold cntP; rw [if_neg hs, if_pos h])
    have E2 := Lib.hid (show ¬ (at0 L i < lo ∨ hi' < at0 L i) → cntP lo hi' L i = .ok (at0 L i, i + 1) from fun h => by unfold cntP; rw [if_neg hs, if_neg h])
    go_enter Try.func51, Try.ntmps51
    go_wp2_with fail
    refine (ahead_ok w rb b off cap i L S H.out 1 1 rfl (by decide) (by omega)).mono ?_
    rintro r u ⟨rfl, g⟩
    have R := Lib.hid (H.out.grown g.out)
    have c1 := R.out.cell1
    have f1 := R.out.blk.free 1
    have lb := R.out.blk.lt
    have hl := R.out.len
    obtain ⟨_, _, e1, _, cx⟩ := R.out.byt.1.at1 hil
    cases e1
    have nb := R.out.ne hil b off rfl
    generalize at0 L i = x at *
    have e2 : IntKind.i64.wrap x = x := IntWalk.i64_in _ (by omega)
    by_cases h1 : x < lo
    · have EE := Lib.hid (E1.out (.inl h1))
      go_wp2
      go_ret2
      exact ⟨gb_weak g.out, .inr ⟨_, _, rfl, by decide, EE, R⟩⟩
    by_cases h2 : hi' < x
    · have EE := Lib.hid (E1.out (.inr h2))
      have h1d : decide (x < lo) = false := by simp; omega
      go_wp2
      go_ret2
      exact ⟨gb_weak g.out, .inr ⟨_, _, rfl, by decide, EE, R⟩⟩
    · have EE := Lib.hid (E2.out (by omega))
      have h1d : decide (x < lo) = false := by simp; omega
      have h2d : decide (hi' < x) = false := by simp; omega
      go_wp2
      go_ret2
      exact ⟨gb_setB (gb_weak g.out) _, .inl ⟨x, i + 1, _, rfl, EE, hil, R.out.putI (i + 1) _ (by omega), rfl, lx, by omega, by omega⟩⟩
end Go.Proofs.Ytinmhefkmjlelaa.sc

/- Package script's reader: an operation. -/
namespace Go.Proofs.Ytinmhefkmjlelaa.sc
open Go Go.RowKit Go.Proofs.Ytinmhefkmjlelaa.base Go.Proofs.Ytinmhefkmjlelaa.lg Go.Proofs.Ytinmhefkmjlelaa.md
set_option linter.unusedVariables false
set_option linter.unusedSimpArgs false
set_option maxRecDepth 100000

theorem s8_sg (x : Int) : s8 x = sg x := rfl

theorem gz_0 (f : Nat → Int) : gz f 0 0 = f 0 ∧ gz f 0 1 = f 1 ∧ gz f 0 2 = sg (f 2) := ⟨rfl, rfl, rfl⟩

theorem op_got (w : World) (rb : Nat) (b off cap i : Nat) (L : List Int) (S : List Value) (n : Int) (h : Rdr w rb (some ⟨b, off, none⟩) cap L i S) (hi : i + 3 ≤ L.length) : Calls Try.prog 61 #[.slice (some ⟨b, off + i, none⟩) 3 (cap - i), .int .i64 n] w fun r w' => Hid (w.grownBy w' none) ∧ ((∃ (x : Op3) (g c : Nat), r = .returned (.tuple #[.slice (some ⟨g, 0, none⟩) 1 c, .int .i64 (-1), .int .i64 0]) ∧ Hid (opP n L i = .ok (x, i + 3)) ∧ Hid (w'.cell? ⟨g, 0, none⟩ = some (.int .i64 x.k) ∧ w'.cell? ⟨g, 1, none⟩ = some (.int .i64 x.o) ∧ w'.cell? ⟨g, 2, none⟩ = some (.int .i64 x.a) ∧ w.heap.size ≤ g)) ∨ (r = .returned (.tuple #[.slice none 0 0, .int .i64 0, .int .i64 3]) ∧ Hid (opP n L i = .error (i, 3)))) := by
  have hc := h.capl
  have hl := h.len
  have hz : IsNums .u8 w (some ⟨b, off + i, none⟩) 3 (fun k => at0 L (i + k)) := by
    obtain ⟨_, _, e1, hb, _⟩ := h.byt.1.at1 (show i < L.length by omega)
    cases e1
    refine .inr ⟨b, off + i, rfl, hb, fun k hk => ?_⟩
    obtain ⟨_, _, e1, _, cx⟩ := h.byt.1.at1 (show i + k < L.length by omega)
    cases e1
    rw [Nat.add_assoc]
    exact cx
  have hb : ∀ k, k < 3 → 0 ≤ at0 L (i + k) ∧ at0 L (i + k) ≤ 255 := fun k hk => at0_byte h.byt.2 (by omega)
  refine (get_any _ 3 (cap - i) (fun k => at0 L (i + k)) n w hz hb (by omega) (by omega) (by omega)).mono ?_
  rintro r w' ⟨g, ⟨m, b', c', hm, hok, rfl, ho⟩ | ⟨m, h1, h2, _⟩ | ⟨m, h1, _, hbad, rfl⟩⟩
  · obtain rfl : m = 1 := by omega
    have hok1 := okN_at hok (show 0 < 1 by decide)
    obtain ⟨e0, e1, e2⟩ := gz_0 (fun k => at0 L (i + k))
    rw [e0, e1, e2] at hok1
    refine ⟨g, .inl ⟨⟨at0 L i, at0 L (i + 1), sg (at0 L (i + 2))⟩, ?_⟩⟩
    rcases ho.2 with ⟨_, h0⟩ | ⟨q, cap2, cur, ev, _⟩
    · cases h0
    injection ev with ev1 ev2 ev3
    subst ev1
    have hq := (ho.lt q rfl).1
    refine ⟨q, c', rfl, ?_, ?_, ?_, ?_, hq⟩
    · show opP n L i = _
      unfold opP
      rw [if_neg (by omega), if_pos (by exact hok1)]
    · have := ho.cellAt 0 (by decide)
      rw [this, ops_get _ 1 0 0 (by decide) (by decide), e0]
      rfl
    · have := ho.cellAt 1 (by decide)
      rw [this, ops_get _ 1 0 1 (by decide) (by decide), e1]
    · have := ho.cellAt 2 (by decide)
      rw [this, ops_get _ 1 0 2 (by decide) (by decide), e2]
  · omega
  · obtain rfl : m = 0 := by omega
    obtain ⟨e0, e1, e2⟩ := gz_0 (fun k => at0 L (i + k))
    rw [e0, e1, e2] at hbad
    refine ⟨g, .inr ⟨rfl, ?_⟩⟩
    show opP n L i = _
    unfold opP
    rw [if_neg (by omega), if_neg]
    intro hh
    have hh' : okB (at0 L (i + 0)) (at0 L (i + 1)) (sg (at0 L (i + 2))) n = true := hh
    rw [hh'] at hbad
    cases hbad

theorem Rdr.new3 {w u : World} {rb : Nat} {a : Option Addr} {cap i j : Nat} {L : List Int} {S : List Value} (h : Rdr w rb a cap L i S) (g : w.grownBy u (some rb)) (R : Rdr u rb a cap L j S) (lb : rb < w.heap.size) (ob : Nat) (ho : w.heap.size = ob) (x y z : Value) : w.grownBy (((u.setCell ⟨ob, 0, none⟩ x).setCell ⟨ob, 1, none⟩ y).setCell ⟨ob, 2, none⟩ z) (some rb) ∧ Rdr (((u.setCell ⟨ob, 0, none⟩ x).setCell ⟨ob, 1, none⟩ y).setCell ⟨ob, 2, none⟩ z) rb a cap L j S := by
  have G := gb_setNew (gb_setNew (gb_setNew g (p := ⟨ob, 0, none⟩) (by simp; omega) x) (p := ⟨ob, 1, none⟩) (by simp; omega) y) (p := ⟨ob, 2, none⟩) (by simp; omega) z
  exact ⟨G, h.to G (((R.blk.other (p := ⟨ob, 0, none⟩) (by simp; omega) x).other (p := ⟨ob, 1, none⟩) (by simp; omega) y).other (p := ⟨ob, 2, none⟩) (by simp; omega) z)⟩

set_option maxHeartbeats 1000000 in
theorem rop_any (w : World) (rb : Nat) (a : Option Addr) (cap i : Nat) (L : List Int) (S : List Value) (n : Int) (hS : S[0]? = some (.int .i64 n)) (h : Rdr w rb a cap L i S) (hi : i ≤ L.length) : Calls Try.prog 60 #[.pointer (some ⟨rb, 0, none⟩)] w (RdA w rb a cap L S (opP n) (fun _ x v => v = .agg #[.int .i64 x.k, .int .i64 x.o, .int .i64 x.a]) (.agg #[.int .i64 0, .int .i64 0, .int .i64 0]) i) := by
  have H := Lib.hid h
  have lb0 := h.blk.lt
  have hc := Lib.hid (fun (u : World) (j : Nat) (hR : Rdr u rb a cap L j S) => (show u.cell? ⟨rb, 2, none⟩ = some (.int .i64 n) by rw [hR.blk.cell 2]; simpa [rdC] using hS))
  clear h hS
  have A := Lib.hid (H.out.grown (World.grownBy_alloc w (.cells #[.int .i64 0, .int .i64 0, .int .i64 0] 77) none))
  have G := Lib.hid (World.grownBy_alloc w (.cells #[.int .i64 0, .int .i64 0, .int .i64 0] 77) none)
  have O := Lib.hid ((Own.start w).alloc 77 [.int .i64 0, .int .i64 0, .int .i64 0])
  by_cases hs : L.length < i + 3
  · have E := Lib.hid (show opP n L i = .error (L.length, 9) by unfold opP; rw [if_pos hs])
    go_enter Try.func60, Try.ntmps60; go_wp2_with fail; generalize w.alloc _ = v at *; generalize hob : w.heap.size = ob at *
    refine (ahead_short v rb a cap i L S A.out 3 3 rfl (by omega) hi).mono ?_
    rintro r u ⟨rfl, g, R⟩
    have hne : rb ≠ ob := by omega
    have B := Lib.hid (Blk.grown (O.out.get 0 rfl) g.out (by simp; omega))
    have G2 := Lib.hid (gb_trans (gb_weak (r := some rb) G.out) g.out)
    clear O A G g
    have o0 := B.out.at 0 rfl; have o1 := B.out.at 1 rfl; have o2 := B.out.at 2 rfl
    have f0 := B.out.free 0; have f1 := B.out.free 1; have f2 := B.out.free 2
    have ob1 := B.out.lt
    go_wp2
    refine bodyPost_ret (v := .tuple #[.agg #[.int .i64 0, .int .i64 0, .int .i64 0], .int .i64 9]) ?_ rfl ?_
    · simp [results, Try.results60, go_sem, *]
    · obtain ⟨g3, R3⟩ := H.out.new3 G2.out R.out (by omega) ob hob (.int .i64 0) (.int .i64 0) (.int .i64 0)
      exact ⟨g3, .inr ⟨_, _, rfl, by decide, E, R3⟩⟩
  · have hi3 : i + 3 ≤ L.length := by omega
    obtain ⟨b, off, rfl, _, _⟩ := H.out.byt.1.at1 (show i < L.length by omega)
    go_enter Try.func60, Try.ntmps60; go_wp2_with fail; generalize w.alloc _ = v at *; generalize hob : w.heap.size = ob at *
    refine (ahead_ok v rb b off cap i L S A.out 3 3 rfl (by decide) hi3).mono ?_
    rintro r u ⟨rfl, g⟩
    have hne : rb ≠ ob := by omega
    have B := Lib.hid (Blk.grown (O.out.get 0 rfl) g.out (by simp))
    have G2 := Lib.hid (gb_trans G.out g.out)
    have R := Lib.hid (A.out.grown g.out)
    have cn := hc.out u i R.out
    have lb := R.out.blk.lt
    clear O A G g
    go_wp2_with fail
    refine (op_got u rb b off cap i L S n R.out hi3).mono ?_
    rintro r u2 ⟨g2, ⟨x, q, c, rfl, E, C⟩ | ⟨rfl, E⟩⟩
    · have G3 := Lib.hid (gb_trans G2.out g2.out)
      have R3 := Lib.hid (R.out.grown g2.out)
      have B3 := Lib.hid (B.out.grown g2.out (by simp))
      obtain ⟨q0, q1, q2, hq⟩ := C.out
      have hqo : q ≠ ob := by have := G2.out.size; have := B.out.lt; omega
      have hqr : q ≠ rb := by have := R.out.blk.lt; omega
      have hl := R.out.len
      clear G2 R B g2 C cn lb hc
      have c1 := R3.out.cell1
      have f1 := R3.out.blk.free 1
      have lb := R3.out.blk.lt
      have o0 := B3.out.at 0 rfl; have o1 := B3.out.at 1 rfl; have o2 := B3.out.at 2 rfl
      have f0 := B3.out.free 0; have f1 := B3.out.free 1; have f2 := B3.out.free 2
      have ob1 := B3.out.lt
      go_wp2
      refine bodyPost_ret (v := .tuple #[.agg #[.int .i64 x.k, .int .i64 x.o, .int .i64 x.a], .int .i64 0]) ?_ rfl ?_
      · simp [results, Try.results60, go_sem, *]
      · obtain ⟨g4, R4⟩ := H.out.new3 (gb_setB (gb_weak G3.out) _) (R3.out.putI (i + 3) ((i : Int) + 3) (by omega)) (by omega) ob hob (.int .i64 x.k) (.int .i64 x.o) (.int .i64 x.a)
        exact ⟨g4, .inl ⟨x, i + 3, _, rfl, E, hi3, R4, rfl⟩⟩
    · have G3 := Lib.hid (gb_trans G2.out g2.out)
      have R3 := Lib.hid (R.out.grown g2.out)
      have B3 := Lib.hid (B.out.grown g2.out (by simp))
      clear G2 R B g2 cn lb hc
      have o0 := B3.out.at 0 rfl; have o1 := B3.out.at 1 rfl; have o2 := B3.out.at 2 rfl
      have f0 := B3.out.free 0; have f1 := B3.out.free 1; have f2 := B3.out.free 2
      have ob1 := B3.out.lt
      go_wp2
      refine bodyPost_ret (v := .tuple #[.agg #[.int .i64 0, .int .i64 0, .int .i64 0], .int .i64 3]) ?_ rfl ?_
      · simp [results, Try.results60, go_sem, *]
      · obtain ⟨g4, R4⟩ := H.out.new3 (gb_weak G3.out) R3.out (by omega) ob hob (.int .i64 0) (.int .i64 0) (.int .i64 0)
        exact ⟨g4, .inr ⟨_, _, rfl, by decide, E, R4⟩⟩
end Go.Proofs.Ytinmhefkmjlelaa.sc

/- Package script's reader: lists of numbers, of operations. Printed by tools/genRdL.py. -/
namespace Go.Proofs.Ytinmhefkmjlelaa.sc
open Go Go.RowKit Go.Proofs.Ytinmhefkmjlelaa.base Go.Proofs.Ytinmhefkmjlelaa.lg Go.Proofs.Ytinmhefkmjlelaa.md
set_option linter.unusedVariables false
set_option linter.unusedSimpArgs false
set_option maxRecDepth 100000

theorem infoI : (Try.prog.info? 3).map (fun i => (i.zero, i.size, i.bytes)) = some (some (.int .i64 0), 1, 8) := by kernel_rfl

set_option maxHeartbeats 1000000 in
theorem list_first (w : World) (rb : Nat) (a : Option Addr) (cap i : Nat) (L : List Int) (S : List Value) (h : Rdr w rb a cap L i S) (hi : i ≤ L.length) (n : Nat) (hn : n ≤ 100000) : Calls Try.prog 47 #[.int .i64 (n : Int), .func (Fn.func 48) #[.pointer (some ⟨rb, 0, none⟩)] #[]] w (RdA w rb a cap L S (rep (sgP) n) (fun w' xs v => w'.ownsRow w.heap.size 2 1 v xs.length (numsC .i64 xs)) (.slice none 0 0) i) := by
  obtain ⟨i0, hi0, hz00, hz10, hz20⟩ := info_parts info64
  have hi9 := Lib.hid hi0
  have hz0 := Lib.hid hz00
  have hz1 := Lib.hid hz10
  have hz2 := Lib.hid hz20
  have H := Lib.hid h
  have HS := Lib.hid h.blk.lt
  clear hi0 hz00 hz10 hz20 h
  go_enter Try.func47, Try.ntmps47
  go_wp2_with (at_make; refine wpList_make_own _ rfl _ _ 26 rfl w.heap.size 2 i0 (.int .i64 0) 1 Try.underlying26 hi9.out hz0.out hz1.out .i64 .i64 (n : Int) n rfl rfl rfl (by rw [hz2.out]; omega) (by unfold maxLen; omega) (Nat.le_refl _) ?_; intro w1 ho1 hg1)
  have O1 := Lib.hid ho1
  have G1 := Lib.hid (gb_weak (r := some rb) hg1)
  have R1 := Lib.hid (H.out.grown hg1)
  clear ho1 hg1
  generalize hB : w.heap.size = B at *
  have HB := Lib.hid hB
  clear hB
  go_loopw [6, 12] (fun lv iv wr => ∃ (k : Nat) (xs : List Int) (b' : Option Addr) (c' j : Nat), k ≤ n ∧ iv = .int .i64 k ∧ Hid (xs.length = k) ∧ lv = .slice b' k c' ∧ j ≤ L.length ∧ Hid (rep (sgP) k L i = .ok (xs, j)) ∧ Hid (wr.ownsRow B 2 1 (.slice b' k c') k (numsC .i64 xs)) ∧ Hid (w.grownBy wr (some rb)) ∧ Hid (Rdr wr rb a cap L j S)) (fun _ iv _ => (n - intOf iv).toNat)
  case atStart => exact ⟨0, [], some ⟨B, 0, none⟩, n, i, by omega, rfl, rfl, rfl, hi, rfl, O1, G1, R1⟩
  case round =>
    obtain ⟨k, xs, b', c', j, hk, rfl, HL, rfl, hj, HR, O, G, R⟩ := hrel
    clear O1 G1 R1
    by_cases hlt : k < n
    · have hlt' : (k : Int) < (n : Int) := by omega
      go_wp2_with fail
      refine (value_any wr rb a cap j L S R.out hj).mono ?_
      rintro r u ⟨g, ⟨x, j2, v, rfl, E, hj2, R2, HV⟩ | ⟨pl, er, rfl, he, E, R2⟩⟩
      · have K1 := Lib.hid (R.out.keepT g.out)
        have O2 := Lib.hid (K1.out.own O.out (by decide))
        have G2 := Lib.hid (gb_trans G.out g.out)
        have HN := Lib.hid (rep_next HR.out E.out)
        obtain rfl := HV.out
        have hk1 : k + 1 ≤ 1000000 := by omega
        have hsz := Lib.hid (show B ≤ u.heap.size by have := G2.out.size; have := HB.out; omega)
        clear HV E HR O G R K1 g
        go_wp2_with (at_builtin; go_loud (refine wpList_append_any _ rfl (.tmp 22) (.tmp 24) 26 rfl B 2 i0 (.int .i64 0) 1 8 Try.underlying26 hi9.out hz0.out hz1.out hz2.out rfl (by decide) _ k (numsC .i64 xs) rfl (ownsRow_keep O2.out (fun b e => Below.heap_alloc _ _ b (O2.out.lt b e).2)) (some ⟨u.heap.size, 0, none⟩) 1 1 [.int .i64 x] rfl rfl (new_src _ _ _ _ rfl) (by intro u hu; simp at hu; subst hu; rfl) (by unfold maxLen; omega) (by omega) (by have := hsz.out; simp; omega) ?_); intro b2 c2' w3 ho hg hv; clear hv)
        have KR := Lib.hid (KeepT.row (ownsRow_keep O2.out (fun b e => Below.heap_alloc _ (.cells #[.int .i64 x] 2) b (O2.out.lt b e).2)) hg)
        have G3 := Lib.hid (gb_overR (gb_alloc G2.out _) hg (fun i hi => by have := (O2.out.lt i hi).1; have := HB.out; omega))
        have R3 := Lib.hid (H.out.to G3.out (Blk.keep (R2.out.blk.alloc (.cells #[.int .i64 x] 2)) (KR.out.2 rb _ _ (R2.out.blk.alloc _) (by decide))))
        have HL2 := Lib.hid (show (xs ++ [x]).length = k + 1 by rw [List.length_append, HL.out]; rfl)
        have O3 : Hid (w3.ownsRow B 2 1 (.slice b2 (k + 1) c2') (k + 1) (numsC .i64 (xs ++ [x]))) := by rw [numsC_snoc]; exact ho
        clear ho hg
        go_roundw
        case rel => exact ⟨k + 1, xs ++ [x], b2, c2', j2, by omega, by go_num, HL2, rfl, hj2, HN, O3, G3, R3⟩
        case measure => simp [intOf]; omega
      · have he' : (er != 0) = true := by simp [he]
        have EE := Lib.hid (rep_err_le (rep_bad HR.out E.out) (show k + 1 ≤ n by omega))
        have G2 := Lib.hid (gb_trans G.out g.out)
        go_wp2
        go_ret2
        exact ⟨G2, .inr ⟨pl, er, rfl, he, EE, R2⟩⟩
    · obtain rfl : k = n := by omega
      go_wp2
      go_ret2
      refine ⟨G, .inl ⟨xs, j, .slice b' k c', rfl, HR, hj, R, ?_⟩⟩
      have e := HB.out
      subst e
      show wr.ownsRow w.heap.size 2 1 (.slice b' k c') xs.length (numsC .i64 xs)
      rw [HL.out]
      exact O

set_option maxHeartbeats 1000000 in
theorem list_draws (w : World) (rb : Nat) (a : Option Addr) (cap i : Nat) (L : List Int) (S : List Value) (h : Rdr w rb a cap L i S) (hi : i ≤ L.length) (n : Nat) (hn : n ≤ 100000) : Calls Try.prog 52 #[.int .i64 (n : Int), .func (Fn.func 53) #[.pointer (some ⟨rb, 0, none⟩)] #[]] w (RdA w rb a cap L S (rep (byteP) n) (fun w' xs v => w'.ownsRow w.heap.size 5 1 v xs.length (numsC .u8 xs)) (.slice none 0 0) i) := by
  obtain ⟨i0, hi0, hz00, hz10, hz20⟩ := info_parts infoU8
  have hi9 := Lib.hid hi0
  have hz0 := Lib.hid hz00
  have hz1 := Lib.hid hz10
  have hz2 := Lib.hid hz20
  have H := Lib.hid h
  have HS := Lib.hid h.blk.lt
  clear hi0 hz00 hz10 hz20 h
  go_enter Try.func52, Try.ntmps52
  go_wp2_with (at_make; refine wpList_make_own _ rfl _ _ 22 rfl w.heap.size 5 i0 (.int .u8 0) 1 Try.underlying22 hi9.out hz0.out hz1.out .i64 .i64 (n : Int) n rfl rfl rfl (by rw [hz2.out]; omega) (by unfold maxLen; omega) (Nat.le_refl _) ?_; intro w1 ho1 hg1)
  have O1 := Lib.hid ho1
  have G1 := Lib.hid (gb_weak (r := some rb) hg1)
  have R1 := Lib.hid (H.out.grown hg1)
  clear ho1 hg1
  generalize hB : w.heap.size = B at *
  have HB := Lib.hid hB
  clear hB
  go_loopw [6, 12] (fun lv iv wr => ∃ (k : Nat) (xs : List Int) (b' : Option Addr) (c' j : Nat), k ≤ n ∧ iv = .int .i64 k ∧ Hid (xs.length = k) ∧ lv = .slice b' k c' ∧ j ≤ L.length ∧ Hid (rep (byteP) k L i = .ok (xs, j)) ∧ Hid (wr.ownsRow B 5 1 (.slice b' k c') k (numsC .u8 xs)) ∧ Hid (w.grownBy wr (some rb)) ∧ Hid (Rdr wr rb a cap L j S)) (fun _ iv _ => (n - intOf iv).toNat)
  case atStart => exact ⟨0, [], some ⟨B, 0, none⟩, n, i, by omega, rfl, rfl, rfl, hi, rfl, O1, G1, R1⟩
  case round =>
    obtain ⟨k, xs, b', c', j, hk, rfl, HL, rfl, hj, HR, O, G, R⟩ := hrel
    clear O1 G1 R1
    by_cases hlt : k < n
    · have hlt' : (k : Int) < (n : Int) := by omega
      go_wp2_with fail
      refine (next_any wr rb a cap j L S R.out hj).mono ?_
      rintro r u ⟨g, ⟨x, j2, v, rfl, E, hj2, R2, HV⟩ | ⟨pl, er, rfl, he, E, R2⟩⟩
      · have K1 := Lib.hid (R.out.keepT g.out)
        have O2 := Lib.hid (K1.out.own O.out (by decide))
        have G2 := Lib.hid (gb_trans G.out g.out)
        have HN := Lib.hid (rep_next HR.out E.out)
        obtain ⟨rfl, _⟩ := HV.out
        have hk1 : k + 1 ≤ 1000000 := by omega
        have hsz := Lib.hid (show B ≤ u.heap.size by have := G2.out.size; have := HB.out; omega)
        clear HV E HR O G R K1 g
        go_wp2_with (at_builtin; go_loud (refine wpList_append_any _ rfl (.tmp 22) (.tmp 24) 22 rfl B 5 i0 (.int .u8 0) 1 1 Try.underlying22 hi9.out hz0.out hz1.out hz2.out rfl (by decide) _ k (numsC .u8 xs) rfl (ownsRow_keep O2.out (fun b e => Below.heap_alloc _ _ b (O2.out.lt b e).2)) (some ⟨u.heap.size, 0, none⟩) 1 1 [.int .u8 x] rfl rfl (new_src _ _ _ _ rfl) (by intro u hu; simp at hu; subst hu; rfl) (by unfold maxLen; omega) (by omega) (by have := hsz.out; simp; omega) ?_); intro b2 c2' w3 ho hg hv; clear hv)
        have KR := Lib.hid (KeepT.row (ownsRow_keep O2.out (fun b e => Below.heap_alloc _ (.cells #[.int .u8 x] 5) b (O2.out.lt b e).2)) hg)
        have G3 := Lib.hid (gb_overR (gb_alloc G2.out _) hg (fun i hi => by have := (O2.out.lt i hi).1; have := HB.out; omega))
        have R3 := Lib.hid (H.out.to G3.out (Blk.keep (R2.out.blk.alloc (.cells #[.int .u8 x] 5)) (KR.out.2 rb _ _ (R2.out.blk.alloc _) (by decide))))
        have HL2 := Lib.hid (show (xs ++ [x]).length = k + 1 by rw [List.length_append, HL.out]; rfl)
        have O3 : Hid (w3.ownsRow B 5 1 (.slice b2 (k + 1) c2') (k + 1) (numsC .u8 (xs ++ [x]))) := by rw [numsC_snoc]; exact ho
        clear ho hg
        go_roundw
        case rel => exact ⟨k + 1, xs ++ [x], b2, c2', j2, by omega, by go_num, HL2, rfl, hj2, HN, O3, G3, R3⟩
        case measure => simp [intOf]; omega
      · have he' : (er != 0) = true := by simp [he]
        have EE := Lib.hid (rep_err_le (rep_bad HR.out E.out) (show k + 1 ≤ n by omega))
        have G2 := Lib.hid (gb_trans G.out g.out)
        go_wp2
        go_ret2
        exact ⟨G2, .inr ⟨pl, er, rfl, he, EE, R2⟩⟩
    · obtain rfl : k = n := by omega
      go_wp2
      go_ret2
      refine ⟨G, .inl ⟨xs, j, .slice b' k c', rfl, HR, hj, R, ?_⟩⟩
      have e := HB.out
      subst e
      show wr.ownsRow w.heap.size 5 1 (.slice b' k c') xs.length (numsC .u8 xs)
      rw [HL.out]
      exact O

set_option maxHeartbeats 1000000 in
theorem list_picks (w : World) (rb : Nat) (a : Option Addr) (cap i : Nat) (L : List Int) (S : List Value) (h : Rdr w rb a cap L i S) (hi : i ≤ L.length) (n : Nat) (hn : n ≤ 100000) : Calls Try.prog 54 #[.int .i64 (n : Int), .func (Fn.func 55) #[.pointer (some ⟨rb, 0, none⟩)] #[]] w (RdA w rb a cap L S (rep (byteP) n) (fun w' xs v => w'.ownsRow w.heap.size 3 1 v xs.length (numsC .i64 xs)) (.slice none 0 0) i) := by
  obtain ⟨i0, hi0, hz00, hz10, hz20⟩ := info_parts infoI
  have hi9 := Lib.hid hi0
  have hz0 := Lib.hid hz00
  have hz1 := Lib.hid hz10
  have hz2 := Lib.hid hz20
  have H := Lib.hid h
  have HS := Lib.hid h.blk.lt
  clear hi0 hz00 hz10 hz20 h
  go_enter Try.func54, Try.ntmps54
  go_wp2_with (at_make; refine wpList_make_own _ rfl _ _ 28 rfl w.heap.size 3 i0 (.int .i64 0) 1 Try.underlying28 hi9.out hz0.out hz1.out .i64 .i64 (n : Int) n rfl rfl rfl (by rw [hz2.out]; omega) (by unfold maxLen; omega) (Nat.le_refl _) ?_; intro w1 ho1 hg1)
  have O1 := Lib.hid ho1
  have G1 := Lib.hid (gb_weak (r := some rb) hg1)
  have R1 := Lib.hid (H.out.grown hg1)
  clear ho1 hg1
  generalize hB : w.heap.size = B at *
  have HB := Lib.hid hB
  clear hB
  go_loopw [6, 12] (fun lv iv wr => ∃ (k : Nat) (xs : List Int) (b' : Option Addr) (c' j : Nat), k ≤ n ∧ iv = .int .i64 k ∧ Hid (xs.length = k) ∧ lv = .slice b' k c' ∧ j ≤ L.length ∧ Hid (rep (byteP) k L i = .ok (xs, j)) ∧ Hid (wr.ownsRow B 3 1 (.slice b' k c') k (numsC .i64 xs)) ∧ Hid (w.grownBy wr (some rb)) ∧ Hid (Rdr wr rb a cap L j S)) (fun _ iv _ => (n - intOf iv).toNat)
  case atStart => exact ⟨0, [], some ⟨B, 0, none⟩, n, i, by omega, rfl, rfl, rfl, hi, rfl, O1, G1, R1⟩
  case round =>
    obtain ⟨k, xs, b', c', j, hk, rfl, HL, rfl, hj, HR, O, G, R⟩ := hrel
    clear O1 G1 R1
    by_cases hlt : k < n
    · have hlt' : (k : Int) < (n : Int) := by omega
      go_wp2_with fail
      refine (pick_any wr rb a cap j L S R.out hj).mono ?_
      rintro r u ⟨g, ⟨x, j2, v, rfl, E, hj2, R2, HV⟩ | ⟨pl, er, rfl, he, E, R2⟩⟩
      · have K1 := Lib.hid (R.out.keepT g.out)
        have O2 := Lib.hid (K1.out.own O.out (by decide))
        have G2 := Lib.hid (gb_trans G.out g.out)
        have HN := Lib.hid (rep_next HR.out E.out)
        obtain rfl := HV.out
        have hk1 : k + 1 ≤ 1000000 := by omega
        have hsz := Lib.hid (show B ≤ u.heap.size by have := G2.out.size; have := HB.out; omega)
        clear HV E HR O G R K1 g
        go_wp2_with (at_builtin; go_loud (refine wpList_append_any _ rfl (.tmp 22) (.tmp 24) 28 rfl B 3 i0 (.int .i64 0) 1 8 Try.underlying28 hi9.out hz0.out hz1.out hz2.out rfl (by decide) _ k (numsC .i64 xs) rfl (ownsRow_keep O2.out (fun b e => Below.heap_alloc _ _ b (O2.out.lt b e).2)) (some ⟨u.heap.size, 0, none⟩) 1 1 [.int .i64 x] rfl rfl (new_src _ _ _ _ rfl) (by intro u hu; simp at hu; subst hu; rfl) (by unfold maxLen; omega) (by omega) (by have := hsz.out; simp; omega) ?_); intro b2 c2' w3 ho hg hv; clear hv)
        have KR := Lib.hid (KeepT.row (ownsRow_keep O2.out (fun b e => Below.heap_alloc _ (.cells #[.int .i64 x] 3) b (O2.out.lt b e).2)) hg)
        have G3 := Lib.hid (gb_overR (gb_alloc G2.out _) hg (fun i hi => by have := (O2.out.lt i hi).1; have := HB.out; omega))
        have R3 := Lib.hid (H.out.to G3.out (Blk.keep (R2.out.blk.alloc (.cells #[.int .i64 x] 3)) (KR.out.2 rb _ _ (R2.out.blk.alloc _) (by decide))))
        have HL2 := Lib.hid (show (xs ++ [x]).length = k + 1 by rw [List.length_append, HL.out]; rfl)
        have O3 : Hid (w3.ownsRow B 3 1 (.slice b2 (k + 1) c2') (k + 1) (numsC .i64 (xs ++ [x]))) := by rw [numsC_snoc]; exact ho
        clear ho hg
        go_roundw
        case rel => exact ⟨k + 1, xs ++ [x], b2, c2', j2, by omega, by go_num, HL2, rfl, hj2, HN, O3, G3, R3⟩
        case measure => simp [intOf]; omega
      · have he' : (er != 0) = true := by simp [he]
        have EE := Lib.hid (rep_err_le (rep_bad HR.out E.out) (show k + 1 ≤ n by omega))
        have G2 := Lib.hid (gb_trans G.out g.out)
        go_wp2
        go_ret2
        exact ⟨G2, .inr ⟨pl, er, rfl, he, EE, R2⟩⟩
    · obtain rfl : k = n := by omega
      go_wp2
      go_ret2
      refine ⟨G, .inl ⟨xs, j, .slice b' k c', rfl, HR, hj, R, ?_⟩⟩
      have e := HB.out
      subst e
      show wr.ownsRow w.heap.size 3 1 (.slice b' k c') xs.length (numsC .i64 xs)
      rw [HL.out]
      exact O

set_option maxHeartbeats 1000000 in
theorem list_ops (w : World) (rb : Nat) (a : Option Addr) (cap i : Nat) (L : List Int) (S : List Value) (nn : Int) (hS : S[0]? = some (.int .i64 nn)) (h : Rdr w rb a cap L i S) (hi : i ≤ L.length) (n : Nat) (hn : n ≤ 100000) : Calls Try.prog 59 #[.int .i64 (n : Int), .func (Fn.func 60) #[.pointer (some ⟨rb, 0, none⟩)] #[]] w (RdA w rb a cap L S (rep (opP nn) n) (fun w' xs v => w'.ownsRow w.heap.size 77 3 v xs.length (rows opc3 xs)) (.slice none 0 0) i) := by
  obtain ⟨i0, hi0, hz00, hz10, hz20⟩ := info_parts infoOp
  have hi9 := Lib.hid hi0
  have hz0 := Lib.hid hz00
  have hz1 := Lib.hid hz10
  have hz2 := Lib.hid hz20
  have H := Lib.hid h
  have HS := Lib.hid h.blk.lt
  have HSn := Lib.hid hS
  clear hi0 hz00 hz10 hz20 h
  go_enter Try.func59, Try.ntmps59
  go_wp2_with (at_make; refine wpList_make_own _ rfl _ _ 60 rfl w.heap.size 77 i0 (.agg #[.int .i64 0, .int .i64 0, .int .i64 0]) 3 Try.underlying60 hi9.out hz0.out hz1.out .i64 .i64 (n : Int) n rfl rfl rfl (by rw [hz2.out]; omega) (by unfold maxLen; omega) (Nat.le_refl _) ?_; intro w1 ho1 hg1)
  have O1 := Lib.hid ho1
  have G1 := Lib.hid (gb_weak (r := some rb) hg1)
  have R1 := Lib.hid (H.out.grown hg1)
  clear ho1 hg1
  generalize hB : w.heap.size = B at *
  have HB := Lib.hid hB
  clear hB
  go_loopw [6, 12] (fun lv iv wr => ∃ (k : Nat) (xs : List Op3) (b' : Option Addr) (c' j : Nat), k ≤ n ∧ iv = .int .i64 k ∧ Hid (xs.length = k) ∧ lv = .slice b' k c' ∧ j ≤ L.length ∧ Hid (rep (opP nn) k L i = .ok (xs, j)) ∧ Hid (wr.ownsRow B 77 3 (.slice b' k c') k (rows opc3 xs)) ∧ Hid (w.grownBy wr (some rb)) ∧ Hid (Rdr wr rb a cap L j S)) (fun _ iv _ => (n - intOf iv).toNat)
  case atStart => exact ⟨0, [], some ⟨B, 0, none⟩, n, i, by omega, rfl, rfl, rfl, hi, rfl, O1, G1, R1⟩
  case round =>
    obtain ⟨k, xs, b', c', j, hk, rfl, HL, rfl, hj, HR, O, G, R⟩ := hrel
    clear O1 G1 R1
    by_cases hlt : k < n
    · have hlt' : (k : Int) < (n : Int) := by omega
      go_wp2_with fail
      refine (rop_any wr rb a cap j L S nn HSn.out R.out hj).mono ?_
      rintro r u ⟨g, ⟨x, j2, v, rfl, E, hj2, R2, HV⟩ | ⟨pl, er, rfl, he, E, R2⟩⟩
      · have K1 := Lib.hid (R.out.keepT g.out)
        have O2 := Lib.hid (K1.out.own O.out (by decide))
        have G2 := Lib.hid (gb_trans G.out g.out)
        have HN := Lib.hid (rep_next HR.out E.out)
        obtain rfl := HV.out
        have hk1 : k + 1 ≤ 1000000 := by omega
        have hsz := Lib.hid (show B ≤ u.heap.size by have := G2.out.size; have := HB.out; omega)
        clear HV E HR O G R K1 g
        go_wp2_with (at_builtin; go_loud (refine wpList_append_any _ rfl (.tmp 22) (.tmp 24) 60 rfl B 77 i0 (.agg #[.int .i64 0, .int .i64 0, .int .i64 0]) 3 24 Try.underlying60 hi9.out hz0.out hz1.out hz2.out rfl (by decide) _ k (rows opc3 xs) rfl (ownsRow_keep O2.out (fun b e => (Below.heap_alloc _ _ b (by have := (O2.out.lt b e).2; simp; omega)).trans (Below.heap_alloc _ _ b (O2.out.lt b e).2))) (some ⟨u.heap.size + 1, 0, none⟩) 1 1 [.int .i64 x.k, .int .i64 x.o, .int .i64 x.a] rfl rfl (new_src _ _ _ _ (by simp)) (by intro u hu; simp at hu; rcases hu with rfl | rfl | rfl <;> rfl) (by unfold maxLen; omega) (by omega) (by have := hsz.out; simp; omega) ?_); intro b2 c2' w3 ho hg hv; clear hv)
        have KR := Lib.hid (KeepT.row (ownsRow_keep O2.out (fun b e => (Below.heap_alloc _ (.cells #[.int .i64 x.k, .int .i64 x.o, .int .i64 x.a] 77) b (by have := (O2.out.lt b e).2; simp; omega)).trans (Below.heap_alloc _ (.cells #[.int .i64 x.k, .int .i64 x.o, .int .i64 x.a] 77) b (O2.out.lt b e).2))) hg)
        have G3 := Lib.hid (gb_overR (gb_alloc (gb_alloc G2.out _) _) hg (fun i hi => by have := (O2.out.lt i hi).1; have := HB.out; omega))
        have R3 := Lib.hid (H.out.to G3.out (Blk.keep ((R2.out.blk.alloc (.cells #[.int .i64 x.k, .int .i64 x.o, .int .i64 x.a] 77)).alloc (.cells #[.int .i64 x.k, .int .i64 x.o, .int .i64 x.a] 77)) (KR.out.2 rb _ _ ((R2.out.blk.alloc _).alloc _) (by decide))))
        have HL2 := Lib.hid (show (xs ++ [x]).length = k + 1 by rw [List.length_append, HL.out]; rfl)
        have O3 : Hid (w3.ownsRow B 77 3 (.slice b2 (k + 1) c2') (k + 1) (rows opc3 (xs ++ [x]))) := by rw [rows_snoc]; exact ho
        clear ho hg
        go_roundw
        case rel => exact ⟨k + 1, xs ++ [x], b2, c2', j2, by omega, by go_num, HL2, rfl, hj2, HN, O3, G3, R3⟩
        case measure => simp [intOf]; omega
      · have he' : (er != 0) = true := by simp [he]
        have EE := Lib.hid (rep_err_le (rep_bad HR.out E.out) (show k + 1 ≤ n by omega))
        have G2 := Lib.hid (gb_trans G.out g.out)
        go_wp2
        go_ret2
        exact ⟨gb_alloc G2.out _, .inr ⟨pl, er, rfl, he, EE, R2.out.grown (World.grownBy_alloc _ _ _)⟩⟩
    · obtain rfl : k = n := by omega
      go_wp2
      go_ret2
      refine ⟨G, .inl ⟨xs, j, .slice b' k c', rfl, HR, hj, R, ?_⟩⟩
      have e := HB.out
      subst e
      show wr.ownsRow w.heap.size 77 3 (.slice b' k c') xs.length (rows opc3 xs)
      rw [HL.out]
      exact O
end Go.Proofs.Ytinmhefkmjlelaa.sc

/- Package script's reader: a transaction. Printed by tools/genRdL.py. -/
namespace Go.Proofs.Ytinmhefkmjlelaa.sc
open Go Go.RowKit Go.Proofs.Ytinmhefkmjlelaa.base Go.Proofs.Ytinmhefkmjlelaa.lg Go.Proofs.Ytinmhefkmjlelaa.md
set_option linter.unusedVariables false
set_option linter.unusedSimpArgs false
set_option maxRecDepth 100000

theorem infoTx : (Try.prog.info? 60).map (fun i => (i.zero, i.size, i.bytes)) = some (some (.slice none 0 0), 1, 24) := by kernel_rfl

theorem infoTh : (Try.prog.info? 59).map (fun i => (i.zero, i.size, i.bytes)) = some (some (.slice none 0 0), 1, 24) := by kernel_rfl

theorem mf_call (fn : Fn) (first cap : Array Value) (w : World) : (Instr.makeFunc fn first cap).run Try.prog w = .ok (.func fn first cap) w := rfl

theorem cnt_at {L : List Int} {i j : Nat} {x lo hi : Int} (h : cntP lo hi L i = .ok (x, j)) : ¬ L.length ≤ i ∧ x = at0 L i ∧ ¬ (at0 L i < lo ∨ hi < at0 L i) ∧ j = i + 1 := by
  unfold cntP at h
  split at h
  · cases h
  next h1 =>
    split at h
    · cases h
    next h2 =>
      cases h
      exact ⟨h1, rfl, h2, rfl⟩

theorem cnt_err {L : List Int} {i : Nat} {e : Nat × Int} {lo hi : Int} (h : cntP lo hi L i = .error e) : (L.length ≤ i ∧ e = (L.length, 9)) ∨ (¬ L.length ≤ i ∧ (at0 L i < lo ∨ hi < at0 L i) ∧ e = (i, 3)) := by
  unfold cntP at h
  split at h
  · next h1 =>
    cases h
    exact .inl ⟨h1, rfl⟩
  next h1 =>
    split at h
    · next h2 =>
      cases h
      exact .inr ⟨h1, h2, rfl⟩
    · cases h

theorem tx_of_cnt {L : List Int} {i j n : Nat} (h : cntP 1 8 L i = .ok ((n : Int), j)) (nn : Int) : txP nn L i = rep (opP nn) n L j := by
  obtain ⟨h1, h2, h3, rfl⟩ := cnt_at h
  unfold txP
  rw [if_neg h1, if_neg h3, ← h2, Int.toNat_natCast]

theorem tx_of_cnt_err {L : List Int} {i : Nat} {e : Nat × Int} (h : cntP 1 8 L i = .error e) (nn : Int) : txP nn L i = .error e := by
  unfold txP
  rcases cnt_err h with ⟨h1, rfl⟩ | ⟨h1, h2, rfl⟩
  · rw [if_pos h1]
  · rw [if_neg h1, if_pos h2]

theorem th_of_cnt {L : List Int} {i j n : Nat} (hb : Bytes L) (h : cntP 0 6 L i = .ok ((n : Int), j)) (nn : Int) : thP nn L i = rep (txP nn) n L j := by
  obtain ⟨h1, h2, h3, rfl⟩ := cnt_at h
  unfold thP
  rw [if_neg h1, if_neg (by omega), ← h2, Int.toNat_natCast]

theorem th_of_cnt_err {L : List Int} {i : Nat} {e : Nat × Int} (hb : Bytes L) (h : cntP 0 6 L i = .error e) (nn : Int) : thP nn L i = .error e := by
  unfold thP
  rcases cnt_err h with ⟨h1, rfl⟩ | ⟨h1, h2, rfl⟩
  · rw [if_pos h1]
  · have := at0_byte hb (show i < L.length by omega)
    rw [if_neg h1, if_pos (by omega)]

theorem dr_of_cnt {L : List Int} {i j n : Nat} (hb : Bytes L) (h : cntP 0 255 L i = .ok ((n : Int), j)) : drP L i = rep byteP n L j := by
  obtain ⟨h1, h2, h3, rfl⟩ := cnt_at h
  unfold drP
  rw [if_neg h1, ← h2, Int.toNat_natCast]

theorem dr_of_cnt_err {L : List Int} {i : Nat} {e : Nat × Int} (hb : Bytes L) (h : cntP 0 255 L i = .error e) : drP L i = .error e := by
  unfold drP
  rcases cnt_err h with ⟨h1, rfl⟩ | ⟨h1, h2, rfl⟩
  · rw [if_pos h1]
  · have := at0_byte hb (show i < L.length by omega)
    omega

theorem rtxn_any (w : World) (rb : Nat) (a : Option Addr) (cap i : Nat) (L : List Int) (S : List Value) (nn : Int) (hS : S[0]? = some (.int .i64 nn)) (h : Rdr w rb a cap L i S) (hi : i ≤ L.length) : Calls Try.prog 58 #[.pointer (some ⟨rb, 0, none⟩)] w (RdA w rb a cap L S (txP nn) (fun w' x v => OwnTx w.heap.size w' x v) (.slice none 0 0) i) := by
  have hmf := mf_call
  have H := Lib.hid h
  have HSn := Lib.hid hS
  clear h
  go_enter Try.func58, Try.ntmps58
  go_wp2_with fail
  refine (count_any w rb a cap i L S H.out hi 1 8).mono ?_
  rintro r u ⟨g, ⟨x, j, v, rfl, E, hj, R, HV⟩ | ⟨pl, er, rfl, he, E, R⟩⟩
  · obtain ⟨rfl, ⟨l0, l1⟩, l2, l3⟩ := HV.out
    clear HV
    obtain ⟨n, rfl⟩ : ∃ n : Nat, x = n := ⟨x.toNat, by omega⟩
    have EE := Lib.hid (tx_of_cnt E.out nn)
    go_wp2_with fail
    refine (list_ops u rb a cap j L S nn HSn.out R.out hj n (by omega)).mono ?_
    rintro r u2 ⟨g2, ⟨xs, j2, v, rfl, E2, hj2, R2, HV2⟩ | ⟨pl, er, rfl, he, E2, R2⟩⟩
    · have hh := Lib.hid (show OwnTx w.heap.size u2 xs v from owns_lower HV2.out g.out.size)
      obtain ⟨va, vc, hv⟩ := owns_sl hh.out
      subst hv
      have E3 := Lib.hid (EE.out.trans E2.out)
      have G2 := Lib.hid (gb_trans g.out g2.out)
      go_wp2
      go_ret2
      exact ⟨G2, .inl ⟨xs, j2, _, rfl, E3, hj2, R2, hh⟩⟩
    · have E3 := Lib.hid (EE.out.trans E2.out)
      have G2 := Lib.hid (gb_trans g.out g2.out)
      go_wp2
      go_ret2
      exact ⟨G2, .inr ⟨pl, er, rfl, he, E3, R2⟩⟩
  · have EE := Lib.hid (tx_of_cnt_err E.out nn)
    have he' : (er != 0) = true := by simp [he]
    go_wp2
    go_ret2
    exact ⟨g, .inr ⟨pl, er, rfl, he, EE, R⟩⟩
end Go.Proofs.Ytinmhefkmjlelaa.sc

/- Package script's reader: a thread's transactions, and all threads'. Printed by tools/genRdL.py. -/
namespace Go.Proofs.Ytinmhefkmjlelaa.sc
open Go Go.RowKit Go.Proofs.Ytinmhefkmjlelaa.base Go.Proofs.Ytinmhefkmjlelaa.lg Go.Proofs.Ytinmhefkmjlelaa.md
set_option linter.unusedVariables false
set_option linter.unusedSimpArgs false
set_option maxRecDepth 100000

set_option maxHeartbeats 1000000 in
theorem list_txns (w : World) (rb : Nat) (a : Option Addr) (cap i : Nat) (L : List Int) (S : List Value) (nn : Int) (hS : S[0]? = some (.int .i64 nn)) (h : Rdr w rb a cap L i S) (hi : i ≤ L.length) (n : Nat) (hn : n ≤ 100000) : Calls Try.prog 57 #[.int .i64 (n : Int), .func (Fn.func 58) #[.pointer (some ⟨rb, 0, none⟩)] #[]] w (RdA w rb a cap L S (rep (txP nn) n) (fun w' xs v => OwnTh w.heap.size w' xs v) (.slice none 0 0) i) := by
  obtain ⟨i0, hi0, hz00, hz10, hz20⟩ := info_parts infoTx
  have hi9 := Lib.hid hi0
  have hz0 := Lib.hid hz00
  have hz1 := Lib.hid hz10
  have hz2 := Lib.hid hz20
  have H := Lib.hid h
  have HS := Lib.hid h.blk.lt
  have HSn := Lib.hid hS
  clear hi0 hz00 hz10 hz20 h
  go_enter Try.func57, Try.ntmps57
  go_wp2_with (at_make; refine wpList_make_own _ rfl _ _ 59 rfl w.heap.size 60 i0 (.slice none 0 0) 1 Try.underlying59 hi9.out hz0.out hz1.out .i64 .i64 (n : Int) n rfl rfl rfl (by rw [hz2.out]; omega) (by unfold maxLen; omega) (Nat.le_refl _) ?_; intro w1 ho1 hg1)
  have O1 := Lib.hid ho1
  have G1 := Lib.hid (gb_weak (r := some rb) hg1)
  have R1 := Lib.hid (H.out.grown hg1)
  clear ho1 hg1
  generalize hB : w.heap.size = B at *
  have HB := Lib.hid hB
  clear hB
  go_loopw [6, 12] (fun lv iv wr => ∃ (k : Nat) (xs : List (List Op3)) (b' : Option Addr) (c' j : Nat) (vs : List Value), k ≤ n ∧ iv = .int .i64 k ∧ Hid (xs.length = k) ∧ lv = .slice b' k c' ∧ j ≤ L.length ∧ Hid (rep (txP nn) k L i = .ok (xs, j)) ∧ Hid (wr.ownsRow B 60 1 (.slice b' k c') k vs) ∧ Hid (vs.length = k) ∧ Hid (∀ (m : Nat) (x : (List Op3)) (y : Value), xs[m]? = some x → vs[m]? = some y → OwnTx B wr x y) ∧ Hid (w.grownBy wr (some rb)) ∧ Hid (Rdr wr rb a cap L j S)) (fun _ iv _ => (n - intOf iv).toNat)
  case atStart => exact ⟨0, [], some ⟨B, 0, none⟩, n, i, [], by omega, rfl, rfl, rfl, hi, rfl, O1, rfl, (fun m x y hx => by simp at hx), G1, R1⟩
  case round =>
    obtain ⟨k, xs, b', c', j, vs, hk, rfl, HL, rfl, hj, HR, O, VL, EL, G, R⟩ := hrel
    clear O1 G1 R1
    by_cases hlt : k < n
    · have hlt' : (k : Int) < (n : Int) := by omega
      go_wp2_with fail
      refine (rtxn_any wr rb a cap j L S nn HSn.out R.out hj).mono ?_
      rintro r u ⟨g, ⟨x, j2, v, rfl, E, hj2, R2, HV⟩ | ⟨pl, er, rfl, he, E, R2⟩⟩
      · have K1 := Lib.hid (R.out.keepT g.out)
        have O2 := Lib.hid (K1.out.own O.out (by decide))
        have G2 := Lib.hid (gb_trans G.out g.out)
        have HN := Lib.hid (rep_next HR.out E.out)
        have hlow := Lib.hid (show OwnTx B u x v from owns_lower HV.out (by have := G.out.size; have := HB.out; omega))
        obtain ⟨oa, oc, hv⟩ := owns_sl hlow.out
        subst hv
        have HX := hlow
        have EL2 := Lib.hid (show ∀ (m : Nat) (x : List Op3) (y : Value), xs[m]? = some x → vs[m]? = some y → OwnTx B u x y from fun m x y hx hy => (EL.out m x y hx hy).keep K1.out (by decide))
        clear EL
        have hk1 : k + 1 ≤ 1000000 := by omega
        have hsz := Lib.hid (show B ≤ u.heap.size by have := G2.out.size; have := HB.out; omega)
        clear HV E HR O G R K1 g
        go_wp2_with (at_builtin; go_loud (refine wpList_append_any _ rfl (.tmp 22) (.tmp 24) 59 rfl B 60 i0 (.slice none 0 0) 1 24 Try.underlying59 hi9.out hz0.out hz1.out hz2.out rfl (by decide) _ k vs rfl (ownsRow_keep O2.out (fun b e => Below.heap_alloc _ _ b (O2.out.lt b e).2)) (some ⟨u.heap.size, 0, none⟩) 1 1 [.slice oa x.length oc] rfl rfl (new_src _ _ _ _ rfl) (by intro u hu; simp at hu; subst hu; rfl) (by unfold maxLen; omega) (by omega) (by have := hsz.out; simp; omega) ?_); intro b2 c2' w3 ho hg hv; clear hv)
        have KR := Lib.hid (KeepT.row (ownsRow_keep O2.out (fun b e => Below.heap_alloc _ (.cells #[.slice oa x.length oc] 60) b (O2.out.lt b e).2)) hg)
        have G3 := Lib.hid (gb_overR (gb_alloc G2.out _) hg (fun i hi => by have := (O2.out.lt i hi).1; have := HB.out; omega))
        have R3 := Lib.hid (H.out.to G3.out (Blk.keep (R2.out.blk.alloc (.cells #[.slice oa x.length oc] 60)) (KR.out.2 rb _ _ (R2.out.blk.alloc _) (by decide))))
        have HL2 := Lib.hid (show (xs ++ [x]).length = k + 1 by rw [List.length_append, HL.out]; rfl)
        have O3 := Lib.hid ho
        have VL2 := Lib.hid (show (vs ++ [Value.slice oa x.length oc]).length = k + 1 by rw [List.length_append, VL.out]; rfl)
        have KA := Lib.hid (show KeepT (fun t => t ≠ 60) u w3 from (KeepT.trans (KeepT.grown (World.grownBy_alloc u (.cells #[.slice oa x.length oc] 60) none)) KR.out))
        have EL3 := Lib.hid (show ∀ (m : Nat) (y : (List Op3)) (z : Value), (xs ++ [x])[m]? = some y → (vs ++ [Value.slice oa x.length oc])[m]? = some z → OwnTx B w3 y z from fun m y z hy hz => by
          by_cases hm : m < xs.length
          · rw [List.getElem?_append_left hm] at hy
            rw [List.getElem?_append_left (by have := HL.out; have := VL.out; omega)] at hz
            exact (EL2.out m y z hy hz).keep KA.out (by decide)
          · have hml : m = xs.length := by
              have := (List.getElem?_eq_some_iff.1 hy).1
              simp at this
              omega
            have hmv : m = vs.length := by have := HL.out; have := VL.out; omega
            rw [List.getElem?_append_right (by omega), hml, Nat.sub_self] at hy
            rw [List.getElem?_append_right (by omega), hmv, Nat.sub_self] at hz
            cases hy
            cases hz
            exact HX.out.keep KA.out (by decide))
        clear ho hg
        go_roundw
        case rel => exact ⟨k + 1, xs ++ [x], b2, c2', j2, vs ++ [Value.slice oa x.length oc], by omega, by go_num, HL2, rfl, hj2, HN, O3, VL2, EL3, G3, R3⟩
        case measure => simp [intOf]; omega
      · have he' : (er != 0) = true := by simp [he]
        have EE := Lib.hid (rep_err_le (rep_bad HR.out E.out) (show k + 1 ≤ n by omega))
        have G2 := Lib.hid (gb_trans G.out g.out)
        go_wp2
        go_ret2
        exact ⟨G2, .inr ⟨pl, er, rfl, he, EE, R2⟩⟩
    · obtain rfl : k = n := by omega
      go_wp2
      go_ret2
      refine ⟨G, .inl ⟨xs, j, .slice b' k c', rfl, HR, hj, R, ?_⟩⟩
      have e := HB.out
      subst e
      show OwnTh w.heap.size wr xs (.slice b' k c')
      exact ⟨vs, by rw [HL.out]; exact O.out, by rw [HL.out]; exact VL.out, EL.out⟩

theorem rtxns_any (w : World) (rb : Nat) (a : Option Addr) (cap i : Nat) (L : List Int) (S : List Value) (nn : Int) (hS : S[0]? = some (.int .i64 nn)) (h : Rdr w rb a cap L i S) (hi : i ≤ L.length) : Calls Try.prog 50 #[.pointer (some ⟨rb, 0, none⟩)] w (RdA w rb a cap L S (thP nn) (fun w' x v => OwnTh w.heap.size w' x v) (.slice none 0 0) i) := by
  have hmf := mf_call
  have H := Lib.hid h
  have HSn := Lib.hid hS
  clear h
  go_enter Try.func50, Try.ntmps50
  go_wp2_with fail
  refine (count_any w rb a cap i L S H.out hi 0 6).mono ?_
  rintro r u ⟨g, ⟨x, j, v, rfl, E, hj, R, HV⟩ | ⟨pl, er, rfl, he, E, R⟩⟩
  · obtain ⟨rfl, ⟨l0, l1⟩, l2, l3⟩ := HV.out
    clear HV
    obtain ⟨n, rfl⟩ : ∃ n : Nat, x = n := ⟨x.toNat, by omega⟩
    have EE := Lib.hid (th_of_cnt H.out.byt.2 E.out nn)
    go_wp2_with fail
    refine (list_txns u rb a cap j L S nn HSn.out R.out hj n (by omega)).mono ?_
    rintro r u2 ⟨g2, ⟨xs, j2, v, rfl, E2, hj2, R2, HV2⟩ | ⟨pl, er, rfl, he, E2, R2⟩⟩
    · have hh := Lib.hid (show OwnTh w.heap.size u2 xs v from HV2.out.lower g.out.size)
      obtain ⟨va, vc, hv⟩ := hh.out.slice
      subst hv
      have E3 := Lib.hid (EE.out.trans E2.out)
      have G2 := Lib.hid (gb_trans g.out g2.out)
      go_wp2
      go_ret2
      exact ⟨G2, .inl ⟨xs, j2, _, rfl, E3, hj2, R2, hh⟩⟩
    · have E3 := Lib.hid (EE.out.trans E2.out)
      have G2 := Lib.hid (gb_trans g.out g2.out)
      go_wp2
      go_ret2
      exact ⟨G2, .inr ⟨pl, er, rfl, he, E3, R2⟩⟩
  · have EE := Lib.hid (th_of_cnt_err H.out.byt.2 E.out nn)
    have he' : (er != 0) = true := by simp [he]
    go_wp2
    go_ret2
    exact ⟨g, .inr ⟨pl, er, rfl, he, EE, R⟩⟩

set_option maxHeartbeats 1000000 in
theorem list_all (w : World) (rb : Nat) (a : Option Addr) (cap i : Nat) (L : List Int) (S : List Value) (nn : Int) (hS : S[0]? = some (.int .i64 nn)) (h : Rdr w rb a cap L i S) (hi : i ≤ L.length) (n : Nat) (hn : n ≤ 100000) : Calls Try.prog 49 #[.int .i64 (n : Int), .func (Fn.func 50) #[.pointer (some ⟨rb, 0, none⟩)] #[]] w (RdA w rb a cap L S (rep (thP nn) n) (fun w' xs v => OwnAll w.heap.size w' xs v) (.slice none 0 0) i) := by
  obtain ⟨i0, hi0, hz00, hz10, hz20⟩ := info_parts infoTh
  have hi9 := Lib.hid hi0
  have hz0 := Lib.hid hz00
  have hz1 := Lib.hid hz10
  have hz2 := Lib.hid hz20
  have H := Lib.hid h
  have HS := Lib.hid h.blk.lt
  have HSn := Lib.hid hS
  clear hi0 hz00 hz10 hz20 h
  go_enter Try.func49, Try.ntmps49
  go_wp2_with (at_make; refine wpList_make_own _ rfl _ _ 27 rfl w.heap.size 59 i0 (.slice none 0 0) 1 Try.underlying27 hi9.out hz0.out hz1.out .i64 .i64 (n : Int) n rfl rfl rfl (by rw [hz2.out]; omega) (by unfold maxLen; omega) (Nat.le_refl _) ?_; intro w1 ho1 hg1)
  have O1 := Lib.hid ho1
  have G1 := Lib.hid (gb_weak (r := some rb) hg1)
  have R1 := Lib.hid (H.out.grown hg1)
  clear ho1 hg1
  generalize hB : w.heap.size = B at *
  have HB := Lib.hid hB
  clear hB
  go_loopw [6, 12] (fun lv iv wr => ∃ (k : Nat) (xs : List (List (List Op3))) (b' : Option Addr) (c' j : Nat) (vs : List Value), k ≤ n ∧ iv = .int .i64 k ∧ Hid (xs.length = k) ∧ lv = .slice b' k c' ∧ j ≤ L.length ∧ Hid (rep (thP nn) k L i = .ok (xs, j)) ∧ Hid (wr.ownsRow B 59 1 (.slice b' k c') k vs) ∧ Hid (vs.length = k) ∧ Hid (∀ (m : Nat) (x : (List (List Op3))) (y : Value), xs[m]? = some x → vs[m]? = some y → OwnTh B wr x y) ∧ Hid (w.grownBy wr (some rb)) ∧ Hid (Rdr wr rb a cap L j S)) (fun _ iv _ => (n - intOf iv).toNat)
  case atStart => exact ⟨0, [], some ⟨B, 0, none⟩, n, i, [], by omega, rfl, rfl, rfl, hi, rfl, O1, rfl, (fun m x y hx => by simp at hx), G1, R1⟩
  case round =>
    obtain ⟨k, xs, b', c', j, vs, hk, rfl, HL, rfl, hj, HR, O, VL, EL, G, R⟩ := hrel
    clear O1 G1 R1
    by_cases hlt : k < n
    · have hlt' : (k : Int) < (n : Int) := by omega
      go_wp2_with fail
      refine (rtxns_any wr rb a cap j L S nn HSn.out R.out hj).mono ?_
      rintro r u ⟨g, ⟨x, j2, v, rfl, E, hj2, R2, HV⟩ | ⟨pl, er, rfl, he, E, R2⟩⟩
      · have K1 := Lib.hid (R.out.keepT g.out)
        have O2 := Lib.hid (K1.out.own O.out (by decide))
        have G2 := Lib.hid (gb_trans G.out g.out)
        have HN := Lib.hid (rep_next HR.out E.out)
        have hlow := Lib.hid (show OwnTh B u x v from HV.out.lower (by have := G.out.size; have := HB.out; omega))
        obtain ⟨oa, oc, hv⟩ := hlow.out.slice
        subst hv
        have HX := hlow
        have EL2 := Lib.hid (show ∀ (m : Nat) (x : List (List Op3)) (y : Value), xs[m]? = some x → vs[m]? = some y → OwnTh B u x y from fun m x y hx hy => (EL.out m x y hx hy).keep K1.out (by decide) (by decide))
        clear EL
        have hk1 : k + 1 ≤ 1000000 := by omega
        have hsz := Lib.hid (show B ≤ u.heap.size by have := G2.out.size; have := HB.out; omega)
        clear HV E HR O G R K1 g
        go_wp2_with (at_builtin; go_loud (refine wpList_append_any _ rfl (.tmp 22) (.tmp 24) 27 rfl B 59 i0 (.slice none 0 0) 1 24 Try.underlying27 hi9.out hz0.out hz1.out hz2.out rfl (by decide) _ k vs rfl (ownsRow_keep O2.out (fun b e => Below.heap_alloc _ _ b (O2.out.lt b e).2)) (some ⟨u.heap.size, 0, none⟩) 1 1 [.slice oa x.length oc] rfl rfl (new_src _ _ _ _ rfl) (by intro u hu; simp at hu; subst hu; rfl) (by unfold maxLen; omega) (by omega) (by have := hsz.out; simp; omega) ?_); intro b2 c2' w3 ho hg hv; clear hv)
        have KR := Lib.hid (KeepT.row (ownsRow_keep O2.out (fun b e => Below.heap_alloc _ (.cells #[.slice oa x.length oc] 59) b (O2.out.lt b e).2)) hg)
        have G3 := Lib.hid (gb_overR (gb_alloc G2.out _) hg (fun i hi => by have := (O2.out.lt i hi).1; have := HB.out; omega))
        have R3 := Lib.hid (H.out.to G3.out (Blk.keep (R2.out.blk.alloc (.cells #[.slice oa x.length oc] 59)) (KR.out.2 rb _ _ (R2.out.blk.alloc _) (by decide))))
        have HL2 := Lib.hid (show (xs ++ [x]).length = k + 1 by rw [List.length_append, HL.out]; rfl)
        have O3 := Lib.hid ho
        have VL2 := Lib.hid (show (vs ++ [Value.slice oa x.length oc]).length = k + 1 by rw [List.length_append, VL.out]; rfl)
        have KA := Lib.hid (show KeepT (fun t => t ≠ 59) u w3 from (KeepT.trans (KeepT.grown (World.grownBy_alloc u (.cells #[.slice oa x.length oc] 59) none)) KR.out))
        have EL3 := Lib.hid (show ∀ (m : Nat) (y : (List (List Op3))) (z : Value), (xs ++ [x])[m]? = some y → (vs ++ [Value.slice oa x.length oc])[m]? = some z → OwnTh B w3 y z from fun m y z hy hz => by
          by_cases hm : m < xs.length
          · rw [List.getElem?_append_left hm] at hy
            rw [List.getElem?_append_left (by have := HL.out; have := VL.out; omega)] at hz
            exact (EL2.out m y z hy hz).keep KA.out (by decide) (by decide)
          · have hml : m = xs.length := by
              have := (List.getElem?_eq_some_iff.1 hy).1
              simp at this
              omega
            have hmv : m = vs.length := by have := HL.out; have := VL.out; omega
            rw [List.getElem?_append_right (by omega), hml, Nat.sub_self] at hy
            rw [List.getElem?_append_right (by omega), hmv, Nat.sub_self] at hz
            cases hy
            cases hz
            exact HX.out.keep KA.out (by decide) (by decide))
        clear ho hg
        go_roundw
        case rel => exact ⟨k + 1, xs ++ [x], b2, c2', j2, vs ++ [Value.slice oa x.length oc], by omega, by go_num, HL2, rfl, hj2, HN, O3, VL2, EL3, G3, R3⟩
        case measure => simp [intOf]; omega
      · have he' : (er != 0) = true := by simp [he]
        have EE := Lib.hid (rep_err_le (rep_bad HR.out E.out) (show k + 1 ≤ n by omega))
        have G2 := Lib.hid (gb_trans G.out g.out)
        go_wp2
        go_ret2
        exact ⟨G2, .inr ⟨pl, er, rfl, he, EE, R2⟩⟩
    · obtain rfl : k = n := by omega
      go_wp2
      go_ret2
      refine ⟨G, .inl ⟨xs, j, .slice b' k c', rfl, HR, hj, R, ?_⟩⟩
      have e := HB.out
      subst e
      show OwnAll w.heap.size wr xs (.slice b' k c')
      exact ⟨vs, by rw [HL.out]; exact O.out, by rw [HL.out]; exact VL.out, EL.out⟩
end Go.Proofs.Ytinmhefkmjlelaa.sc

/- Package script's reader: its parts. -/
namespace Go.Proofs.Ytinmhefkmjlelaa.sc
open Go Go.RowKit Go.Proofs.Ytinmhefkmjlelaa.base Go.Proofs.Ytinmhefkmjlelaa.lg Go.Proofs.Ytinmhefkmjlelaa.md Go.Proofs.Ytinmhefkmjlelaa.fl
set_option linter.unusedVariables false
set_option linter.unusedSimpArgs false
set_option maxRecDepth 100000

/-- What a part answers: an error or none; S' says what the reader holds then. -/
def PtA (w : World) (rb : Nat) (a : Option Addr) (cap : Nat) (L : List Int) {α : Type} (p : Part α) (V : World → α → Value → Prop) (S' : α → Value → List Value) (i : Nat) (r : Ending) (w' : World) : Prop :=
  Hid (w.grownBy w' (some rb)) ∧ ((∃ (x : α) (j : Nat) (v : Value), r = .returned (.int .i64 0) ∧ Hid (p L i = .ok (x, j)) ∧ j ≤ L.length ∧ Hid (Rdr w' rb a cap L j (S' x v)) ∧ Hid (V w' x v)) ∨ (∃ (pl : Nat) (er : Int) (S'' : List Value), r = .returned (.int .i64 er) ∧ er ≠ 0 ∧ Hid (p L i = .error (pl, er)) ∧ Hid (Rdr w' rb a cap L pl S'')))

section
variable {w w' : World} {rb : Nat} {a : Option Addr} {cap i j : Nat} {L : List Int} {S S' : List Value}
theorem Rdr.store (h : Rdr w rb a cap L i S) (j : Nat) (u : Value) : Rdr (w.setCell ⟨rb, j + 2, none⟩ u) rb a cap L i (S.set j u) :=
  h.to (gb_setB (gb_refl _ _) _) (by simpa [rdC] using h.blk.set (j + 2) u)

theorem Rdr.cellS (h : Rdr w rb a cap L i S) (j : Nat) {v : Value} (hv : S[j]? = some v) : w.cell? ⟨rb, j + 2, none⟩ = some v := by
  rw [h.blk.cell (j + 2)]
  simpa [rdC] using hv

/-- Rows stand while the reader's cells are stored. -/
theorem Rdr.keepS (h : Rdr w rb a cap L i S) (p : Nat) (u : Value) : KeepT (fun t => t ≠ 53) w (w.setCell ⟨rb, p, none⟩ u) := KeepT.set h.blk p u
end

theorem first_any (w : World) (rb : Nat) (a : Option Addr) (cap i : Nat) (L : List Int) (c : Cfg) (fv dv av pv : Value) (h : Rdr w rb a cap L i (cfC c ++ [fv, dv, av, pv])) (hi : i ≤ L.length) (n : Nat) (hc : c.ob = n) (hn : n ≤ 8) : Calls Try.prog 38 #[.pointer (some ⟨rb, 0, none⟩)] w (PtA w rb a cap L (rep sgP n) (fun w' xs v => w'.ownsRow w.heap.size 2 1 v xs.length (numsC .i64 xs)) (fun _ v => cfC c ++ [v, dv, av, pv]) i) := by
  have hmf := mf_call
  have H := Lib.hid h
  have c2 := h.cellS 0 (v := .int .i64 (n : Int)) (by rw [← hc]; rfl)
  simp only [Nat.zero_add] at c2
  have lb := h.blk.lt
  clear h hc
  go_enter Try.func38, Try.ntmps38
  go_wp2_with fail
  refine (list_first w rb a cap i L _ H.out hi n (by omega)).mono ?_
  rintro r u ⟨g, ⟨xs, j, v, rfl, E, hj, R, HV⟩ | ⟨pl, er, rfl, he, E, R⟩⟩
  · obtain ⟨va, vc, hv⟩ := owns_sl HV.out
    subst hv
    have f8 := R.out.blk.free 8
    have lb2 := R.out.blk.lt
    have hcs := R.out.cellS 6 (v := fv) rfl
    go_wp2
    go_ret
    exact ⟨gb_setB g.out _, .inl ⟨xs, j, _, rfl, E, hj, R.out.store 6 _, (R.out.keepS 8 _).own HV.out (by decide)⟩⟩
  · have f8 := R.out.blk.free 8
    have lb2 := R.out.blk.lt
    have hcs := R.out.cellS 6 (v := fv) rfl
    go_wp2
    go_ret
    exact ⟨gb_setB g.out _, .inr ⟨pl, er, _, rfl, he, E, R.out.store 6 _⟩⟩

theorem all_any (w : World) (rb : Nat) (a : Option Addr) (cap i : Nat) (L : List Int) (c : Cfg) (fv dv av pv : Value) (h : Rdr w rb a cap L i (cfC c ++ [fv, dv, av, pv])) (hi : i ≤ L.length) (n : Nat) (hc : c.th = n) (hn : n ≤ 8) : Calls Try.prog 39 #[.pointer (some ⟨rb, 0, none⟩)] w (PtA w rb a cap L (rep (thP c.ob) n) (fun w' xs v => OwnAll w.heap.size w' xs v) (fun _ v => cfC c ++ [fv, dv, v, pv]) i) := by
  have hmf := mf_call
  have H := Lib.hid h
  have c3 := h.cellS 1 (v := .int .i64 (n : Int)) (by rw [← hc]; rfl)
  simp only [Nat.reduceAdd] at c3
  have lb := h.blk.lt
  clear h hc
  go_enter Try.func39, Try.ntmps39
  go_wp2_with fail
  refine (list_all w rb a cap i L _ c.ob rfl H.out hi n (by omega)).mono ?_
  rintro r u ⟨g, ⟨xs, j, v, rfl, E, hj, R, HV⟩ | ⟨pl, er, rfl, he, E, R⟩⟩
  · have hsl : ∃ va vc, v = .slice va xs.length vc := by
      obtain ⟨vs, h1, _⟩ := HV.out
      exact owns_sl h1
    obtain ⟨va, vc, hv⟩ := hsl
    subst hv
    have f10 := R.out.blk.free 10
    have lb2 := R.out.blk.lt
    have hcs := R.out.cellS 8 (v := av) rfl
    go_wp2
    go_ret
    exact ⟨gb_setB g.out _, .inl ⟨xs, j, _, rfl, E, hj, R.out.store 8 _, HV.out.keep (R.out.keepS 10 _) (by decide) (by decide) (by decide)⟩⟩
  · have f10 := R.out.blk.free 10
    have lb2 := R.out.blk.lt
    have hcs := R.out.cellS 8 (v := av) rfl
    go_wp2
    go_ret
    exact ⟨gb_setB g.out _, .inr ⟨pl, er, _, rfl, he, E, R.out.store 8 _⟩⟩

theorem draws_any (w : World) (rb : Nat) (a : Option Addr) (cap i : Nat) (L : List Int) (c : Cfg) (fv dv av pv : Value) (h : Rdr w rb a cap L i (cfC c ++ [fv, dv, av, pv])) (hi : i ≤ L.length) : Calls Try.prog 40 #[.pointer (some ⟨rb, 0, none⟩)] w (PtA w rb a cap L drP (fun w' xs v => w'.ownsRow w.heap.size 5 1 v xs.length (numsC .u8 xs)) (fun _ v => cfC c ++ [fv, v, av, pv]) i) := by
  have hmf := mf_call
  have H := Lib.hid h
  clear h
  go_enter Try.func40, Try.ntmps40
  go_wp2_with fail
  refine (count_any w rb a cap i L _ H.out hi 0 255).mono ?_
  rintro r u ⟨g, ⟨x, j, v, rfl, E, hj, R, HV⟩ | ⟨pl, er, rfl, he, E, R⟩⟩
  · obtain ⟨rfl, ⟨l0, l1⟩, l2, l3⟩ := HV.out
    clear HV
    obtain ⟨n, rfl⟩ : ∃ n : Nat, x = n := ⟨x.toNat, by omega⟩
    have EE := Lib.hid (dr_of_cnt H.out.byt.2 E.out)
    go_wp2_with fail
    refine (list_draws u rb a cap j L _ R.out hj n (by omega)).mono ?_
    rintro r u2 ⟨g2, ⟨xs, j2, v, rfl, E2, hj2, R2, HV2⟩ | ⟨pl, er, rfl, he, E2, R2⟩⟩
    · have hh := Lib.hid (owns_lower HV2.out g.out.size)
      obtain ⟨va, vc, hv⟩ := owns_sl hh.out
      subst hv
      have E3 := Lib.hid (EE.out.trans E2.out)
      have G2 := Lib.hid (gb_trans g.out g2.out)
      have f9 := R2.out.blk.free 9
      have lb2 := R2.out.blk.lt
      have hcs := R2.out.cellS 7 (v := dv) rfl
      go_wp2
      go_ret
      exact ⟨gb_setB G2.out _, .inl ⟨xs, j2, _, rfl, E3, hj2, R2.out.store 7 _, (R2.out.keepS 9 _).own hh.out (by decide)⟩⟩
    · have E3 := Lib.hid (EE.out.trans E2.out)
      have G2 := Lib.hid (gb_trans g.out g2.out)
      have f9 := R2.out.blk.free 9
      have lb2 := R2.out.blk.lt
      have hcs := R2.out.cellS 7 (v := dv) rfl
      go_wp2
      go_ret
      exact ⟨gb_setB G2.out _, .inr ⟨pl, er, _, rfl, he, E3, R2.out.store 7 _⟩⟩
  · have EE := Lib.hid (dr_of_cnt_err H.out.byt.2 E.out)
    have he' : (er != 0) = true := by simp [he]
    go_wp2
    go_ret
    exact ⟨g, .inr ⟨pl, er, _, rfl, he, EE, R⟩⟩

/-- All that is left. -/
def restP : Part (List Int) := fun L i => .ok (L.drop i, L.length)

theorem rep_bytes (L : List Int) (i : Nat) : ∀ m : Nat, i + m ≤ L.length → rep byteP m L i = .ok ((L.drop i).take m, i + m)
  | 0, _ => by simp [rep]
  | m + 1, h => by
    rw [rep, rep_bytes L i m (by omega)]
    dsimp only
    unfold byteP
    rw [if_neg (by omega)]
    dsimp only
    have e : (L.drop i)[m]? = some (at0 L (i + m)) := by
      rw [List.getElem?_drop, List.getElem?_eq_getElem (by omega)]
      unfold at0
      rw [List.getD_eq_getElem?_getD, List.getElem?_eq_getElem (by omega)]
      rfl
    rw [List.take_add_one, e, Nat.add_assoc]
    rfl

theorem rep_rest {L : List Int} {i : Nat} (h : i ≤ L.length) : rep byteP (L.length - i) L i = restP L i := by
  rw [rep_bytes L i _ (by omega)]
  unfold restP
  rw [show i + (L.length - i) = L.length by omega, List.take_of_length_le (by rw [List.length_drop]; exact Nat.le_refl _)]
end Go.Proofs.Ytinmhefkmjlelaa.sc

/- Package script's reader: the picks, the config. -/
namespace Go.Proofs.Ytinmhefkmjlelaa.sc
open Go Go.RowKit Go.Proofs.Ytinmhefkmjlelaa.base Go.Proofs.Ytinmhefkmjlelaa.lg Go.Proofs.Ytinmhefkmjlelaa.md Go.Proofs.Ytinmhefkmjlelaa.fl
set_option linter.unusedVariables false
set_option linter.unusedSimpArgs false
set_option maxRecDepth 100000

theorem list_rest (w : World) (rb : Nat) (a : Option Addr) (cap i : Nat) (L : List Int) (S : List Value) (h : Rdr w rb a cap L i S) (hi : i ≤ L.length) (n : Nat) (hn : n = L.length - i) : Calls Try.prog 54 #[.int .i64 (n : Int), .func (Fn.func 55) #[.pointer (some ⟨rb, 0, none⟩)] #[]] w fun r u => ∃ va vc, r = .returned (.tuple #[.slice va n vc, .int .i64 0]) ∧ Hid (w.grownBy u (some rb)) ∧ Hid (Rdr u rb a cap L L.length S) ∧ Hid (u.ownsRow w.heap.size 3 1 (.slice va n vc) n (numsC .i64 (L.drop i))) := by
  have hl := h.len
  have hr := rep_rest hi
  rw [← hn] at hr
  refine (list_picks w rb a cap i L S h hi n (by omega)).mono ?_
  rintro r u ⟨g, ⟨xs, j, v, rfl, E, hj, R, HV⟩ | ⟨pl, er, rfl, he, E, R⟩⟩
  · have e : Except.ok (xs, j) = restP L i := E.out.symm.trans hr
    unfold restP at e
    cases e
    have hlen : (L.drop i).length = n := by rw [List.length_drop, hn]
    obtain ⟨va, vc, rfl⟩ := owns_sl HV.out
    have O := HV.out
    dsimp only at O
    rw [hlen] at O ⊢
    exact ⟨va, vc, rfl, g, R, O⟩
  · have e : Except.error (pl, er) = restP L i := E.out.symm.trans hr
    unfold restP at e
    cases e

set_option maxHeartbeats 2000000 in
theorem picks_any (w : World) (rb : Nat) (a : Option Addr) (cap i : Nat) (L : List Int) (c : Cfg) (fv dv av pv : Value) (h : Rdr w rb a cap L i (cfC c ++ [fv, dv, av, pv])) (hi : i ≤ L.length) : Calls Try.prog 41 #[.pointer (some ⟨rb, 0, none⟩)] w (PtA w rb a cap L restP (fun w' xs v => w'.ownsRow w.heap.size 3 1 v xs.length (numsC .i64 xs)) (fun _ v => cfC c ++ [fv, dv, av, v]) i) := by
  have hmf := mf_call
  have H := Lib.hid h
  have c0 := h.cell0
  have c1 := h.cell1
  have lb := h.blk.lt
  have hl := h.len
  obtain ⟨n, hn⟩ : ∃ n, n = L.length - i := ⟨_, rfl⟩
  have hk2 : (L.length : Int) - (i : Int) = (n : Int) := by omega
  have hk1 : IntKind.i64.wrap ((L.length : Int) - (i : Int)) = (n : Int) := by rw [IntWalk.i64_in _ (by omega)]; omega
  have hk3 : IntKind.i64.wrap (n : Int) = (n : Int) := IntWalk.i64_in _ (by omega)
  have HC := Lib.hid (fun (u : World) (g : w.grownBy u none) => list_rest u rb a cap i L _ (h.grown g) hi n hn)
  have HN := Lib.hid hn
  clear h hn
  go_enter Try.func41, Try.ntmps41
  go_upto_region 1 with fail
  go_region_law (first | (refine step_call rfl 54 #[.int .i64 (n : Int), .func (Fn.func 55) #[.pointer (some ⟨rb, 0, none⟩)] #[]] (by simp [Act.eval, go_sem, *]) (HC.out w.drew (gb_drew (gb_refl _ _))) ?_; rintro r u ⟨va, vc, rfl, g, R, O⟩; refine ⟨_, rfl, ?_⟩; have f11 := R.out.blk.free 11; have lb2 := R.out.blk.lt; have c11 := R.out.cellS 9 (v := pv) rfl))
  all_goals (
    have GG := Lib.hid (gb_setB (i := 11) (gb_trans (gb_weak (r := some rb) (gb_drew (gb_refl w none))) g.out) (.slice va n vc))
    have O2 := Lib.hid (show (u.setCell ⟨rb, 11, none⟩ (.slice va n vc)).ownsRow w.heap.size 3 1 (.slice va n vc) (L.drop i).length (numsC .i64 (L.drop i)) by
      rw [show (L.drop i).length = n by rw [List.length_drop, HN.out]]
      exact (R.out.keepS 11 _).own O.out (by decide))
    have R2 := Lib.hid (R.out.store 9 (.slice va n vc))
    clear g O HN
    try go_wp2
    go_ret
    exact ⟨GG, .inl ⟨L.drop i, L.length, .slice va n vc, rfl, rfl, Nat.le_refl _, R2, O2⟩⟩)
end Go.Proofs.Ytinmhefkmjlelaa.sc

/- Package script's reader: the config. -/
namespace Go.Proofs.Ytinmhefkmjlelaa.sc
open Go Go.RowKit Go.Proofs.Ytinmhefkmjlelaa.base Go.Proofs.Ytinmhefkmjlelaa.lg Go.Proofs.Ytinmhefkmjlelaa.md Go.Proofs.Ytinmhefkmjlelaa.fl
set_option linter.unusedVariables false
set_option linter.unusedSimpArgs false
set_option maxRecDepth 100000

theorem room_any (co ct cr ck cm cw : Int) (l1 : -1000000 ≤ co ∧ co ≤ 1000000) (w : World) : Calls Try.prog 32 #[.agg #[.int .i64 co, .int .i64 ct, .int .i64 cr, .int .i64 ck, .int .i64 cm, .int .i64 cw]] w fun r w' => r = .returned (.bool (decide (2 * co ≤ cr))) ∧ Hid (w.grownBy w' none) := by
  obtain ⟨l2, l3⟩ := l1
  have hk : IntKind.i64.wrap (2 * co) = 2 * co := IntWalk.i64_in _ (by omega)
  go_enter Try.func32, Try.ntmps32
  go_wp2
  go_ret
  exact ⟨rfl, gb_alloc (gb_refl _ _) _⟩

/-- A config that may be, and that has room. -/
def cfgP : Part Cfg := fun L i => if L.length < 7 then .error (L.length, 9) else if (cfOf L).ok = false then .error (0, 2) else if (cfOf L).re < 2 * (cfOf L).ob then .error (2, 4) else .ok (cfOf L, 7)

set_option maxHeartbeats 2000000 in
theorem config_short (w : World) (rb : Nat) (a : Option Addr) (cap : Nat) (L : List Int) (S : List Value) (h : Rdr w rb a cap L 0 S) (h7 : L.length < 7) : Calls Try.prog 37 #[.pointer (some ⟨rb, 0, none⟩)] w (PtA w rb a cap L cfgP (fun _ _ _ => True) (fun c _ => cfC c ++ [.slice none 0 0, .slice none 0 0, .slice none 0 0, .slice none 0 0]) 0) := by
  have H := Lib.hid h
  have E := Lib.hid (show cfgP L 0 = .error (L.length, 9) by unfold cfgP; rw [if_pos h7])
  clear h
  go_enter Try.func37, Try.ntmps37
  go_wp2_with fail
  refine (ahead_short w rb a cap 0 L S H.out 7 7 rfl (by omega) (by omega)).mono ?_
  rintro r u ⟨rfl, g, R⟩
  go_wp2
  go_ret
  exact ⟨g, .inr ⟨_, _, _, rfl, by decide, E, R⟩⟩

theorem or8 {x y : Int} (hx : 0 ≤ x ∧ x ≤ 255) (hy : 0 ≤ y ∧ y ≤ 255) : bits BinOp.or IntKind.i64 (IntKind.i64.wrap (x * 256)) y = x * 256 + y := by
  rw [IntWalk.i64_in _ (by omega)]
  obtain ⟨a, rfl⟩ := Int.eq_ofNat_of_zero_le hx.1
  obtain ⟨b, rfl⟩ := Int.eq_ofNat_of_zero_le hy.1
  have e : ((BitVec.ofInt 64 ((a : Int) * 256)) ||| (BitVec.ofInt 64 (b : Int))).toNat = a * 256 + b := by
    rw [BitVec.toNat_or, BitVec.toNat_ofInt, BitVec.toNat_ofInt]
    have h1 : ((a : Int) * 256 % ((2 ^ 64 : Nat) : Int)).toNat = 2 ^ 8 * a := by omega
    have h2 : ((b : Int) % ((2 ^ 64 : Nat) : Int)).toNat = b := by omega
    rw [h1, h2, ← Nat.two_pow_add_eq_or_of_lt (i := 8) (by omega) a]
    omega
  show IntKind.i64.wrap ((((BitVec.ofInt 64 ((a : Int) * 256)) ||| (BitVec.ofInt 64 (b : Int))).toNat : Nat) : Int) = _
  rw [e, IntWalk.i64_in _ (by omega)]
  omega

set_option maxHeartbeats 4000000 in
theorem config_any (w : World) (rb : Nat) (a : Option Addr) (cap : Nat) (L : List Int) (h : Rdr w rb a cap L 0 zsC) : Calls Try.prog 37 #[.pointer (some ⟨rb, 0, none⟩)] w (PtA w rb a cap L cfgP (fun _ _ _ => True) (fun c _ => cfC c ++ [.slice none 0 0, .slice none 0 0, .slice none 0 0, .slice none 0 0]) 0) := by
  by_cases h7 : L.length < 7
  · exact config_short w rb a cap L zsC h h7
  have H := Lib.hid h
  clear h
  obtain ⟨b, off, rfl, hbl, c0⟩ := H.out.byt.1.at1 (show 0 < L.length by omega); obtain ⟨_, _, e1, _, c1⟩ := H.out.byt.1.at1 (show 1 < L.length by omega); cases e1; obtain ⟨_, _, e1, _, c2⟩ := H.out.byt.1.at1 (show 2 < L.length by omega); cases e1; obtain ⟨_, _, e1, _, c3⟩ := H.out.byt.1.at1 (show 3 < L.length by omega); cases e1; obtain ⟨_, _, e1, _, c4⟩ := H.out.byt.1.at1 (show 4 < L.length by omega); cases e1; obtain ⟨_, _, e1, _, c5⟩ := H.out.byt.1.at1 (show 5 < L.length by omega); cases e1; obtain ⟨_, _, e1, _, c6⟩ := H.out.byt.1.at1 (show 6 < L.length by omega); cases e1
  have B0 := at0_byte H.out.byt.2 (show 0 < L.length by omega)
  have B1 := at0_byte H.out.byt.2 (show 1 < L.length by omega)
  have B2 := at0_byte H.out.byt.2 (show 2 < L.length by omega)
  have B3 := at0_byte H.out.byt.2 (show 3 < L.length by omega)
  have B4 := at0_byte H.out.byt.2 (show 4 < L.length by omega)
  have B5 := at0_byte H.out.byt.2 (show 5 < L.length by omega)
  have B6 := at0_byte H.out.byt.2 (show 6 < L.length by omega)
  have E1 := Lib.hid (show (cfOf L).ok = false → cfgP L 0 = .error (0, 2) from fun h => by unfold cfgP; rw [if_neg h7, if_pos h])
  have E2 := Lib.hid (show (cfOf L).ok = true → (cfOf L).re < 2 * (cfOf L).ob → cfgP L 0 = .error (2, 4) from fun h k => by unfold cfgP; rw [if_neg h7, if_neg (by simp [h]), if_pos k])
  have E3 := Lib.hid (show (cfOf L).ok = true → ¬ (cfOf L).re < 2 * (cfOf L).ob → cfgP L 0 = .ok (cfOf L, 7) from fun h k => by unfold cfgP; rw [if_neg h7, if_neg (by simp [h]), if_neg k])
  obtain ⟨co, hco⟩ : ∃ q, q = at0 L 0 := ⟨_, rfl⟩
  obtain ⟨ct, hct⟩ : ∃ q, q = at0 L 1 := ⟨_, rfl⟩
  obtain ⟨r1, hr1⟩ : ∃ q, q = at0 L 2 := ⟨_, rfl⟩
  obtain ⟨r2, hr2⟩ : ∃ q, q = at0 L 3 := ⟨_, rfl⟩
  obtain ⟨ck, hck⟩ : ∃ q, q = at0 L 4 := ⟨_, rfl⟩
  obtain ⟨cm, hcm⟩ : ∃ q, q = at0 L 5 := ⟨_, rfl⟩
  obtain ⟨cw, hcw⟩ : ∃ q, q = at0 L 6 := ⟨_, rfl⟩
  have hcf : cfOf L = ⟨co, ct, r1 * 256 + r2, ck, cm, cw⟩ := by unfold cfOf; rw [hco, hct, hr1, hr2, hck, hcm, hcw]
  rw [hcf] at E1 E2 E3
  rw [← hco] at c0 B0
  rw [← hct] at c1 B1
  rw [← hr1] at c2 B2
  rw [← hr2] at c3 B3
  rw [← hck] at c4 B4
  rw [← hcm] at c5 B5
  rw [← hcw] at c6 B6
  clear hco hct hr1 hr2 hck hcm hcw hcf
  have k0 : IntKind.i64.wrap co = co := IntWalk.i64_in _ (by omega)
  have k1 : IntKind.i64.wrap ct = ct := IntWalk.i64_in _ (by omega)
  have k2 : IntKind.i64.wrap r1 = r1 := IntWalk.i64_in _ (by omega)
  have k3 : IntKind.i64.wrap r2 = r2 := IntWalk.i64_in _ (by omega)
  have k4 : IntKind.i64.wrap ck = ck := IntWalk.i64_in _ (by omega)
  have k5 : IntKind.i64.wrap cm = cm := IntWalk.i64_in _ (by omega)
  have k6 : IntKind.i64.wrap cw = cw := IntWalk.i64_in _ (by omega)
  go_enter Try.func37, Try.ntmps37
  go_wp2_with fail
  refine (ahead_ok w rb b off cap 0 L zsC H.out 7 7 rfl (by decide) (by omega)).mono ?_
  rintro r u ⟨rfl, g⟩
  have R := Lib.hid (H.out.grown g.out)
  simp only [Nat.add_zero, Nat.sub_zero] at *
  have c0 := g.out.cell c0 (by simp)
  have c1 := g.out.cell c1 (by simp)
  have c2 := g.out.cell c2 (by simp)
  have c3 := g.out.cell c3 (by simp)
  have c4 := g.out.cell c4 (by simp)
  have c5 := g.out.cell c5 (by simp)
  have c6 := g.out.cell c6 (by simp)
  go_upto_region 4 with fail
  go_region_held3 (fun w' => w'.cell? ⟨b, off, none⟩ = some (.int .u8 co) ∧ w'.cell? ⟨b, off + 1, none⟩ = some (.int .u8 ct) ∧ w'.cell? ⟨b, off + 2, none⟩ = some (.int .u8 r1) ∧ w'.cell? ⟨b, off + 3, none⟩ = some (.int .u8 r2) ∧ w'.cell? ⟨b, off + 4, none⟩ = some (.int .u8 ck) ∧ w'.cell? ⟨b, off + 5, none⟩ = some (.int .u8 cm) ∧ w'.cell? ⟨b, off + 6, none⟩ = some (.int .u8 cw)) (go_keep) (fail)
  simp only [or8 B2 B3]
  have l3 : -1000000 ≤ co ∧ co ≤ 1000000 := by omega
  obtain ⟨cr, hcr⟩ : ∃ q, q = r1 * 256 + r2 := ⟨_, rfl⟩
  rw [← hcr] at E1 E2 E3 ⊢
  clear hcr c0 c1 c2 c3 c4 c5 c6 k0 k1 k2 k3 k4 k5 k6 B0 B1 B2 B3 B4 B5 B6
  have O1 : Hid (Own u (u.alloc (.cells #[.int .i64 co, .int .i64 ct, .int .i64 cr, .int .i64 ck, .int .i64 cm, .int .i64 cw] 25)).drew [(u.heap.size, 25, [.int .i64 co, .int .i64 ct, .int .i64 cr, .int .i64 ck, .int .i64 cm, .int .i64 cw])]) := ((Own.start u).alloc 25 [.int .i64 co, .int .i64 ct, .int .i64 cr, .int .i64 ck, .int .i64 cm, .int .i64 cw]).drew
  generalize (u.alloc _).drew = v at *
  generalize u.heap.size = cb at *
  have d0 := O1.out.cell 0 0 rfl rfl; have d1 := O1.out.cell 0 1 rfl rfl; have d2 := O1.out.cell 0 2 rfl rfl; have d3 := O1.out.cell 0 3 rfl rfl; have d4 := O1.out.cell 0 4 rfl rfl; have d5 := O1.out.cell 0 5 rfl rfl
  go_wp2_with fail
  refine (check_any co ct cr ck cm cw _).mono ?_
  rw [show okC co ct cr ck cm cw = Cfg.ok ⟨co, ct, cr, ck, cm, cw⟩ by unfold okC inB Cfg.ok; simp only [Bool.decide_and, Bool.and_assoc]]
  rintro r u1 ⟨rfl, g1⟩
  have O2 := Lib.hid (O1.out.grown g1.out)
  clear d0 d1 d2 d3 d4 d5 g1 O1
  cases hok : Cfg.ok ⟨co, ct, cr, ck, cm, cw⟩ with
  | false =>
    have EE := Lib.hid (E1.out hok)
    have G := Lib.hid (gb_weak (r := some rb) (gb_trans g.out O2.out.grow))
    have R2 := Lib.hid (R.out.grown O2.out.grow)
    clear hok E1 E2 E3
    go_wp2
    go_ret
    exact ⟨G, .inr ⟨_, _, _, rfl, by decide, EE, R2⟩⟩
  | true =>
    have d0 := O2.out.cell 0 0 rfl rfl; have d1 := O2.out.cell 0 1 rfl rfl; have d2 := O2.out.cell 0 2 rfl rfl; have d3 := O2.out.cell 0 3 rfl rfl; have d4 := O2.out.cell 0 4 rfl rfl; have d5 := O2.out.cell 0 5 rfl rfl
    go_wp2_with fail
    refine (room_any co ct cr ck cm cw l3 _).mono ?_
    rintro r u2 ⟨rfl, g2⟩
    have O3 := Lib.hid (O2.out.grown g2.out)
    have G := Lib.hid (gb_weak (r := some rb) (gb_trans g.out O3.out.grow))
    have R2 := Lib.hid (R.out.grown O3.out.grow)
    clear d0 d1 d2 d3 d4 d5 g2 O2 E1
    have c1 := R2.out.cell1
    have f1 := R2.out.blk.free 1
    have lb := R2.out.blk.lt
    by_cases hf : 2 * co ≤ cr
    · have EE := Lib.hid (E3.out hok (by omega))
      have hd : decide (2 * co ≤ cr) = true := by simp; omega
      clear hok E2 E3 hf
      have d0 := O3.out.cell 0 0 rfl rfl; have d1 := O3.out.cell 0 1 rfl rfl; have d2 := O3.out.cell 0 2 rfl rfl; have d3 := O3.out.cell 0 3 rfl rfl; have d4 := O3.out.cell 0 4 rfl rfl; have d5 := O3.out.cell 0 5 rfl rfl
      have f2 := R2.out.blk.free 2
      have f3 := R2.out.blk.free 3
      have f4 := R2.out.blk.free 4
      have f5 := R2.out.blk.free 5
      have f6 := R2.out.blk.free 6
      have f7 := R2.out.blk.free 7
      have ld := O3.out.lt 0 rfl
      have q2 := R2.out.cellS 0 (v := .int .i64 0) rfl
      have q3 := R2.out.cellS 1 (v := .int .i64 0) rfl
      have q4 := R2.out.cellS 2 (v := .int .i64 0) rfl
      have q5 := R2.out.cellS 3 (v := .int .i64 0) rfl
      have q6 := R2.out.cellS 4 (v := .int .i64 0) rfl
      have q7 := R2.out.cellS 5 (v := .int .i64 0) rfl
      simp only [Nat.reduceAdd, Nat.zero_add] at q2 q3 q4 q5 q6 q7
      have nr : cb ≠ rb := fun e => by
        have h1 := O3.out.get 0 rfl
        have h2 := R2.out.blk
        unfold Blk at h1 h2
        rw [e, h2] at h1
        injection h1 with h1
        injection h1 with _ h1
        cases h1
      go_wp2
      go_ret
      exact ⟨gb_setB (gb_setB (gb_setB (gb_setB (gb_setB (gb_setB (gb_setB G.out _) _) _) _) _) _) _, .inl ⟨⟨co, ct, cr, ck, cm, cw⟩, 7, .nilFunc, rfl, EE, by omega, ((((((R2.out.putI 7 7 (by decide)).store 0 _).store 1 _).store 2 _).store 3 _).store 4 _).store 5 _, trivial⟩⟩
    · have EE := Lib.hid (E2.out hok (by show cr < 2 * co; omega))
      have hd : decide (2 * co ≤ cr) = false := by simp; omega
      clear hok E2 E3 hf
      go_wp2
      go_ret
      exact ⟨gb_setB G.out _, .inr ⟨2, _, _, rfl, by decide, EE, R2.out.putI 2 2 (by decide)⟩⟩
end Go.Proofs.Ytinmhefkmjlelaa.sc

/- Package script's Get: part by part. -/
namespace Go.Proofs.Ytinmhefkmjlelaa.sc
open Go Go.RowKit Go.Proofs.Ytinmhefkmjlelaa.base Go.Proofs.Ytinmhefkmjlelaa.lg Go.Proofs.Ytinmhefkmjlelaa.md Go.Proofs.Ytinmhefkmjlelaa.fl
set_option linter.unusedVariables false
set_option linter.unusedSimpArgs false
set_option maxRecDepth 100000

/-- The parts' functions. -/
def partF (k : Nat) : FuncId := if k = 0 then 37 else if k = 1 then 38 else if k = 2 then 39 else if k = 3 then 40 else 41

def nilS : Value := .slice none 0 0

/-- How far a script is got, behind k parts. -/
def Ph (B : Nat) (w : World) (rb : Nat) (a : Option Addr) (cap : Nat) (L : List Int) : Nat → Prop
  | 0 => Rdr w rb a cap L 0 zsC
  | 1 => ∃ c, cfgP L 0 = .ok (c, 7) ∧ Rdr w rb a cap L 7 (cfC c ++ [nilS, nilS, nilS, nilS])
  | 2 => ∃ c f i fv, cfgP L 0 = .ok (c, 7) ∧ rep sgP c.ob.toNat L 7 = .ok (f, i) ∧ i ≤ L.length ∧ Rdr w rb a cap L i (cfC c ++ [fv, nilS, nilS, nilS]) ∧ w.ownsRow B 2 1 fv f.length (numsC .i64 f)
  | 3 => ∃ c f i fv A j av, cfgP L 0 = .ok (c, 7) ∧ rep sgP c.ob.toNat L 7 = .ok (f, i) ∧ rep (thP c.ob) c.th.toNat L i = .ok (A, j) ∧ j ≤ L.length ∧ Rdr w rb a cap L j (cfC c ++ [fv, nilS, av, nilS]) ∧ w.ownsRow B 2 1 fv f.length (numsC .i64 f) ∧ OwnAll B w A av
  | 4 => ∃ c f i fv A j av d m dv, cfgP L 0 = .ok (c, 7) ∧ rep sgP c.ob.toNat L 7 = .ok (f, i) ∧ rep (thP c.ob) c.th.toNat L i = .ok (A, j) ∧ drP L j = .ok (d, m) ∧ m ≤ L.length ∧ Rdr w rb a cap L m (cfC c ++ [fv, dv, av, nilS]) ∧ w.ownsRow B 2 1 fv f.length (numsC .i64 f) ∧ OwnAll B w A av ∧ w.ownsRow B 5 1 dv d.length (numsC .u8 d)
  | _ => ∃ s fv dv av pv, getS L = .ok s ∧ Rdr w rb a cap L L.length (cfC s.c ++ [fv, dv, av, pv]) ∧ OwnScr B w s fv dv av pv

theorem cfg_at {L : List Int} {c : Cfg} {j : Nat} (h : cfgP L 0 = .ok (c, j)) : c = cfOf L ∧ j = 7 ∧ 7 ≤ L.length ∧ c.ok = true ∧ ¬ c.re < 2 * c.ob := by
  unfold cfgP at h
  split at h
  · cases h
  next h1 =>
  split at h
  · cases h
  next h2 =>
  split at h
  · cases h
  next h3 =>
  cases h
  exact ⟨rfl, rfl, by omega, by simpa using h2, h3⟩

theorem get_cfg_err {L : List Int} {e : Nat × Int} (h : cfgP L 0 = .error e) : getS L = .error e := by
  unfold cfgP at h
  unfold getS
  split at h
  · next h1 => cases h; rw [if_pos h1]
  next h1 =>
  split at h
  · next h2 => cases h; rw [if_neg h1, if_pos h2]
  next h2 =>
  split at h
  · next h3 => cases h; rw [if_neg h1, if_neg h2, if_pos h3]
  · cases h

theorem Ph.rdr {B : Nat} {w : World} {rb : Nat} {a : Option Addr} {cap : Nat} {L : List Int} : ∀ {k : Nat}, Ph B w rb a cap L k → ∃ i S, Rdr w rb a cap L i S
  | 0, h => ⟨_, _, h⟩
  | 1, ⟨_, _, h⟩ => ⟨_, _, h⟩
  | 2, ⟨_, _, _, _, _, _, _, h, _⟩ => ⟨_, _, h⟩
  | 3, ⟨_, _, _, _, _, _, _, _, _, _, _, h, _⟩ => ⟨_, _, h⟩
  | 4, ⟨_, _, _, _, _, _, _, _, _, _, _, _, _, _, _, h, _⟩ => ⟨_, _, h⟩
  | _ + 5, ⟨_, _, _, _, _, _, h, _⟩ => ⟨_, _, h⟩

/-- What part k answers. -/
def PaA (B : Nat) (w : World) (rb : Nat) (a : Option Addr) (cap : Nat) (L : List Int) (k : Nat) (r : Ending) (w' : World) : Prop :=
  Hid (w.grownBy w' (some rb)) ∧ ((r = .returned (.int .i64 0) ∧ Hid (Ph B w' rb a cap L (k + 1))) ∨ (∃ (pl : Nat) (er : Int) (S'' : List Value), r = .returned (.int .i64 er) ∧ er ≠ 0 ∧ Hid (getS L = .error (pl, er)) ∧ Hid (Rdr w' rb a cap L pl S'')))

theorem part_any (B : Nat) (w : World) (rb : Nat) (a : Option Addr) (cap : Nat) (L : List Int) (k : Nat) (hk : k < 5) (hB : B ≤ w.heap.size) (h : Ph B w rb a cap L k) : Calls Try.prog (partF k) #[.pointer (some ⟨rb, 0, none⟩)] w (PaA B w rb a cap L k) := by
  rcases (by omega : k = 0 ∨ k = 1 ∨ k = 2 ∨ k = 3 ∨ k = 4) with rfl | rfl | rfl | rfl | rfl
  · refine (config_any w rb a cap L h).mono ?_
    rintro r u ⟨g, ⟨c, j, v, rfl, E, hj, R, _⟩ | ⟨pl, er, S, rfl, he, E, R⟩⟩
    · obtain ⟨_, rfl, _⟩ := cfg_at E.out
      exact ⟨g, .inl ⟨rfl, c, E.out, R.out⟩⟩
    · exact ⟨g, .inr ⟨pl, er, S, rfl, he, get_cfg_err E.out, R⟩⟩
  · obtain ⟨c, E0, R0⟩ := h
    obtain ⟨hcf, _, h7, hok, hro⟩ := cfg_at E0
    have hcc := Cfg.ok_iff.1 hok
    refine (first_any w rb a cap 7 L c _ _ _ _ R0 h7 c.ob.toNat (by omega) (by omega)).mono ?_
    rintro r u ⟨g, ⟨f, i, v, rfl, E, hj, R, V⟩ | ⟨pl, er, S, rfl, he, E, R⟩⟩
    · exact ⟨g, .inl ⟨rfl, c, f, i, v, E0, E.out, hj, R.out, owns_lower V.out hB⟩⟩
    · refine ⟨g, .inr ⟨pl, er, S, rfl, he, ?_, R⟩⟩
      have E1 := E.out
      rw [hcf] at hok hro E1
      exact get_first_err h7 hok hro E1
  · obtain ⟨c, f, i, fv, E0, E1, hi, R0, O1⟩ := h
    obtain ⟨hcf, _, h7, hok, hro⟩ := cfg_at E0
    have hcc := Cfg.ok_iff.1 hok
    refine (all_any w rb a cap i L c _ _ _ _ R0 hi c.th.toNat (by omega) (by omega)).mono ?_
    rintro r u ⟨g, ⟨A, j, v, rfl, E, hj, R, V⟩ | ⟨pl, er, S, rfl, he, E, R⟩⟩
    · obtain ⟨vs, v1, v2, v3⟩ := V.out
      exact ⟨g, .inl ⟨rfl, c, f, i, fv, A, j, v, E0, E1, E.out, hj, R.out, (R0.keepT g.out).own O1 (by decide), vs, owns_lower v1 hB, v2, fun m x y hx hy => (v3 m x y hx hy).lower hB⟩⟩
    · refine ⟨g, .inr ⟨pl, er, S, rfl, he, ?_, R⟩⟩
      have E2 := E.out
      rw [hcf] at hok hro E1 E2
      exact get_all_err h7 hok hro E1 E2
  · obtain ⟨c, f, i, fv, A, j, av, E0, E1, E2, hj, R0, O1, O2⟩ := h
    obtain ⟨hcf, _, h7, hok, hro⟩ := cfg_at E0
    refine (draws_any w rb a cap j L c _ _ _ _ R0 hj).mono ?_
    rintro r u ⟨g, ⟨d, m, v, rfl, E, hm, R, V⟩ | ⟨pl, er, S, rfl, he, E, R⟩⟩
    · have K := R0.keepT g.out
      exact ⟨g, .inl ⟨rfl, c, f, i, fv, A, j, av, d, m, v, E0, E1, E2, E.out, hm, R.out, K.own O1 (by decide), O2.keep K (by decide) (by decide) (by decide), owns_lower V.out hB⟩⟩
    · refine ⟨g, .inr ⟨pl, er, S, rfl, he, ?_, R⟩⟩
      have E3 := E.out
      rw [hcf] at hok hro E1 E2
      exact get_dr_err h7 hok hro E1 E2 E3
  · obtain ⟨c, f, i, fv, A, j, av, d, m, dv, E0, E1, E2, E3, hm, R0, O1, O2, O3⟩ := h
    obtain ⟨hcf, _, h7, hok, hro⟩ := cfg_at E0
    refine (picks_any w rb a cap m L c _ _ _ _ R0 hm).mono ?_
    rintro r u ⟨g, ⟨p, n, v, rfl, E, hn, R, V⟩ | ⟨pl, er, S, rfl, he, E, R⟩⟩
    · have K := R0.keepT g.out
      have E4 := E.out
      unfold restP at E4
      cases E4
      refine ⟨g, .inl ⟨rfl, ⟨c, f, d, A, L.drop m⟩, fv, dv, av, v, ?_, R.out, ⟨K.own O1 (by decide), K.own O3 (by decide), O2.keep K (by decide) (by decide) (by decide), owns_lower V.out hB⟩⟩⟩
      rw [hcf] at hok hro E1 E2 ⊢
      exact get_all_ok h7 hok hro E1 E2 E3
    · have E4 := E.out
      unfold restP at E4
      cases E4

theorem parts_any (rb : Nat) (w : World) : Calls Try.prog 20 #[.pointer (some ⟨rb, 0, none⟩)] w fun r w' => r = .returned (.slice (some ⟨w.heap.size, 0, none⟩) 5 5) ∧ w' = w.alloc (.cells ⟨(List.range 5).map fun k => Value.func (Fn.func (partF k)) #[.pointer (some ⟨rb, 0, none⟩)] #[]⟩ 56) := by
  have hmf := mf_call
  go_enter Try.func20, Try.ntmps20
  go_wp2
  go_ret
  exact ⟨rfl, rfl⟩
end Go.Proofs.Ytinmhefkmjlelaa.sc

/- The contract of package script's Get. -/
namespace Go.Proofs.Ytinmhefkmjlelaa.sc
open Go Go.RowKit Go.Proofs.Ytinmhefkmjlelaa.base Go.Proofs.Ytinmhefkmjlelaa.lg Go.Proofs.Ytinmhefkmjlelaa.md Go.Proofs.Ytinmhefkmjlelaa.fl
set_option linter.unusedVariables false
set_option linter.unusedSimpArgs false
set_option maxRecDepth 100000


/-- What is there already is stored. -/
theorem set_same {w : World} {b : Nat} {t : TypeId} {cs : List Value} (h : Blk t w b ⟨cs⟩) {j : Nat} {u : Value} (hu : cs[j]? = some u) : w.setCell ⟨b, j, none⟩ u = w := by
  have hb := h.lt
  have hc : w.heap[b] = .cells ⟨cs⟩ t (0, 0) := by
    unfold Blk at h
    simpa [Array.getElem?_eq_getElem hb] using h
  have hs : (⟨cs⟩ : Array Value).setIfInBounds j u = ⟨cs⟩ := by
    apply Array.ext'
    rw [Array.toList_setIfInBounds]
    show cs.set j u = cs
    apply List.ext_getElem?
    intro i
    rw [List.getElem?_set]
    by_cases hij : j = i
    · subst hij
      obtain ⟨hl, _⟩ := List.getElem?_eq_some_iff.1 hu
      rw [if_pos rfl, if_pos hl, hu]
    · rw [if_neg hij]
  have hh : (w.setCell ⟨b, j, none⟩ u).heap = w.heap := by
    unfold World.setCell
    dsimp only
    apply Array.ext
    · simp
    · intro i h1 h2
      by_cases hi : b = i
      · subst hi
        rw [Array.getElem_modify_self, hc]
        simp [hs]
      · rw [Array.getElem_modify_of_ne hi]
  cases w
  simp only [World.setCell] at hh ⊢
  rw [hh]

/-- What Get answers. -/
def GotA (w : World) (L : List Int) (r : Ending) (w' : World) : Prop := Hid (w.grownBy w' none) ∧ ((∃ (s : Scr) (fv dv av pv : Value), r = .returned (.tuple #[.agg ⟨cfC s.c ++ [fv, dv, av, pv]⟩, .int .i64 (-1), .int .i64 0]) ∧ Hid (getS L = .ok s) ∧ Hid (OwnScr w.heap.size w' s fv dv av pv)) ∨ (∃ (pl : Nat) (er : Int), r = .returned (.tuple #[.agg ⟨zsC⟩, .int .i64 pl, .int .i64 er]) ∧ er ≠ 0 ∧ Hid (getS L = .error (pl, er))))

theorem gb_set10 {w u : World} (g : w.grownBy u none) (ob : Nat) (h : w.heap.size ≤ ob) (v0 v1 v2 v3 v4 v5 v6 v7 v8 v9 : Value) : w.grownBy ((((((((((u.setCell ⟨ob, 0, none⟩ v0).setCell ⟨ob, 1, none⟩ v1).setCell ⟨ob, 2, none⟩ v2).setCell ⟨ob, 3, none⟩ v3).setCell ⟨ob, 4, none⟩ v4).setCell ⟨ob, 5, none⟩ v5).setCell ⟨ob, 6, none⟩ v6).setCell ⟨ob, 7, none⟩ v7).setCell ⟨ob, 8, none⟩ v8).setCell ⟨ob, 9, none⟩ v9) none :=
  gb_setNew (gb_setNew (gb_setNew (gb_setNew (gb_setNew (gb_setNew (gb_setNew (gb_setNew (gb_setNew (gb_setNew g (p := ⟨ob, 0, none⟩) h v0) (p := ⟨ob, 1, none⟩) h v1) (p := ⟨ob, 2, none⟩) h v2) (p := ⟨ob, 3, none⟩) h v3) (p := ⟨ob, 4, none⟩) h v4) (p := ⟨ob, 5, none⟩) h v5) (p := ⟨ob, 6, none⟩) h v6) (p := ⟨ob, 7, none⟩) h v7) (p := ⟨ob, 8, none⟩) h v8) (p := ⟨ob, 9, none⟩) h v9

theorem own_set10 {base : Nat} {u : World} {s : Scr} {fv dv av pv : Value} (h : OwnScr base u s fv dv av pv) {ob : Nat} {cs : Array Value} (hb : Blk 30 u ob cs) (v0 v1 v2 v3 v4 v5 v6 v7 v8 v9 : Value) : OwnScr base ((((((((((u.setCell ⟨ob, 0, none⟩ v0).setCell ⟨ob, 1, none⟩ v1).setCell ⟨ob, 2, none⟩ v2).setCell ⟨ob, 3, none⟩ v3).setCell ⟨ob, 4, none⟩ v4).setCell ⟨ob, 5, none⟩ v5).setCell ⟨ob, 6, none⟩ v6).setCell ⟨ob, 7, none⟩ v7).setCell ⟨ob, 8, none⟩ v8).setCell ⟨ob, 9, none⟩ v9) s fv dv av pv := by
  have st : ∀ (w : World) (c : Array Value) (j : Nat) (v : Value), Blk 30 w ob c → OwnScr base w s fv dv av pv → OwnScr base (w.setCell ⟨ob, j, none⟩ v) s fv dv av pv := fun w c j v hb h => h.keep (KeepT.set hb j v) (by decide)
  have b0 := hb.set 0 v0
  have b1 := b0.set 1 v1
  have b2 := b1.set 2 v2
  have b3 := b2.set 3 v3
  have b4 := b3.set 4 v4
  have b5 := b4.set 5 v5
  have b6 := b5.set 6 v6
  have b7 := b6.set 7 v7
  have b8 := b7.set 8 v8
  exact st _ _ 9 v9 b8 (st _ _ 8 v8 b7 (st _ _ 7 v7 b6 (st _ _ 6 v6 b5 (st _ _ 5 v5 b4 (st _ _ 4 v4 b3 (st _ _ 3 v3 b2 (st _ _ 2 v2 b1 (st _ _ 1 v1 b0 (st _ _ 0 v0 hb h)))))))))

theorem cells_of {base : Nat} {w : World} {s : Scr} {fv dv av pv : Value} (h : OwnScr base w s fv dv av pv) : ∃ fa fc da dc aa ac pa pc, fv = .slice fa s.first.length fc ∧ dv = .slice da s.draws.length dc ∧ av = .slice aa s.all.length ac ∧ pv = .slice pa s.picks.length pc := by
  obtain ⟨fa, fc, e1⟩ := owns_sl h.f
  obtain ⟨da, dc, e2⟩ := owns_sl h.d
  obtain ⟨vs, h1, _⟩ := h.a
  obtain ⟨aa, ac, e3⟩ := owns_sl h1
  obtain ⟨pa, pc, e4⟩ := owns_sl h.p
  exact ⟨fa, fc, da, dc, aa, ac, pa, pc, e1, e2, e3, e4⟩

theorem part_enter (k : Nat) (hk : k < 5) (args : Array Value) (w : World) : (callFunc (partF k) args).run Try.prog w = .ok (.enter (partF k) args) w := by
  rcases (by omega : k = 0 ∨ k = 1 ∨ k = 2 ∨ k = 3 ∨ k = 4) with rfl | rfl | rfl | rfl | rfl <;> kernel_rfl

set_option maxHeartbeats 2000000 in
theorem got_any (a : Option Addr) (cap : Nat) (L : List Int) (w : World) (hb : IsB w a L) (hc : L.length ≤ cap) (hm : cap ≤ maxLen) (hL : L.length ≤ 100000) : Calls Try.prog 10 #[.slice a L.length cap] w (GotA w L) := by
  have hmf := mf_call
  have O1 : Hid (Own w ((w.alloc (.cells #[.int .i64 0, .int .i64 0, .int .i64 0, .int .i64 0, .int .i64 0, .int .i64 0, .slice none 0 0, .slice none 0 0, .slice none 0 0, .slice none 0 0] 30)).alloc (.cells #[.slice a L.length cap, .int .i64 0, .int .i64 0, .int .i64 0, .int .i64 0, .int .i64 0, .int .i64 0, .int .i64 0, .slice none 0 0, .slice none 0 0, .slice none 0 0, .slice none 0 0] 53)) [(w.heap.size + 1, 53, rdC a L.length cap 0 zsC), (w.heap.size, 30, zsC)]) := by
    have X := ((Own.start w).alloc 30 zsC).alloc 53 (rdC a L.length cap 0 zsC)
    simp only [size_alloc] at X
    exact X
  have R1 : Hid (Rdr ((w.alloc (.cells #[.int .i64 0, .int .i64 0, .int .i64 0, .int .i64 0, .int .i64 0, .int .i64 0, .slice none 0 0, .slice none 0 0, .slice none 0 0, .slice none 0 0] 30)).alloc (.cells #[.slice a L.length cap, .int .i64 0, .int .i64 0, .int .i64 0, .int .i64 0, .int .i64 0, .int .i64 0, .int .i64 0, .slice none 0 0, .slice none 0 0, .slice none 0 0, .slice none 0 0] 53)) (w.heap.size + 1) a cap L 0 zsC) :=
    ⟨O1.out.get 0 rfl, hb.grown O1.out.grow, hb.1.elim (fun h0 => .inl h0) (fun ⟨b', off', e', hlt, _⟩ => .inr fun b off e => by
      rw [e'] at e
      cases e
      omega), ⟨hc, hm⟩, hL⟩
  clear hb hc hm hL
  go_enter Try.func10, Try.ntmps10
  go_wp2_with fail
  generalize (w.alloc _).alloc _ = v at *
  have hrl : w.heap.size ≤ w.heap.size + 1 := by omega
  generalize w.heap.size + 1 = rb at *
  obtain ⟨ob, hob⟩ : ∃ ob, ob = w.heap.size := ⟨_, rfl⟩
  rw [← hob] at O1 hrl ⊢
  refine (parts_any rb v).mono ?_
  rintro r u ⟨rfl, rfl⟩
  have O2 := Lib.hid (O1.out.alloc 56 ((List.range 5).map fun k => Value.func (Fn.func (partF k)) #[.pointer (some ⟨rb, 0, none⟩)] #[]))
  have R2 := Lib.hid (R1.out.grown (World.grownBy_alloc v (.cells ⟨(List.range 5).map fun k => Value.func (Fn.func (partF k)) #[.pointer (some ⟨rb, 0, none⟩)] #[]⟩ 56) none))
  generalize v.alloc _ = u at *
  generalize v.heap.size = fb at *
  clear O1 R1
  have G2 := Lib.hid O2.out.grow
  have F2 := Lib.hid (O2.out.get 0 rfl)
  have B2 := Lib.hid (O2.out.get 2 rfl)
  have nf := (O2.out.ne 0 1 rfl rfl (by decide))
  have no := (O2.out.ne 2 1 rfl rfl (by decide))
  have HOB := Lib.hid hob
  clear O2 hob
  go_wp2_with fail
  go_loopw [15] (fun iv wr => ∃ k : Nat, k ≤ 5 ∧ iv = .int .i64 k ∧ Hid (w.grownBy wr none) ∧ Hid (Blk 56 wr fb ⟨(List.range 5).map fun k => Value.func (Fn.func (partF k)) #[.pointer (some ⟨rb, 0, none⟩)] #[]⟩) ∧ Hid (Blk 30 wr ob ⟨zsC⟩) ∧ Hid (Ph ob wr rb a cap L k)) (fun iv _ => (5 - intOf iv).toNat)
  case atStart => exact ⟨0, by omega, rfl, G2, F2, B2, R2⟩
  case round =>
    obtain ⟨k, hk, rfl, G, BF, BO, P⟩ := hrel
    clear G2 F2 B2 R2
    by_cases hlt : k < 5
    · have hltI : (k : Int) < 5 := by omega
      have cf : wr.cell? ⟨fb, k, none⟩ = some (.func (Fn.func (partF k)) #[.pointer (some ⟨rb, 0, none⟩)] #[]) := by
        rw [BF.out.cell k]
        simp [hlt]
      have hsz : ob ≤ wr.heap.size := by rw [HOB.out]; exact G.out.size
      have CC := Lib.hid (part_any ob wr rb a cap L k hlt hsz P.out)
      have he := fun args w => part_enter k hlt args w
      generalize partF k = fn at *
      go_wp2_with fail
      refine CC.out.mono ?_
      rintro r u ⟨g, ⟨rfl, P2⟩ | ⟨pl, er, S, rfl, hne, E, R⟩⟩
      · have G2 := Lib.hid (gb_over G.out g.out (by rw [← HOB.out]; exact hrl))
        have BF2 := Lib.hid (BF.out.grown g.out (by simp; exact nf))
        have BO2 := Lib.hid (BO.out.grown g.out (by simp; exact no))
        clear G BF BO CC g P cf
        go_wp2
        go_roundw
        case rel => exact ⟨k + 1, by omega, by go_num, G2, BF2, BO2, P2⟩
        case measure => simp [intOf]; omega
      · have he' : (er != 0) = true := by simp [hne]
        have G2 := Lib.hid (gb_over G.out g.out (by rw [← HOB.out]; exact hrl))
        have BO2 := Lib.hid (BO.out.grown g.out (by simp; exact no))
        have O3 : Hid (Own w u [(ob, 30, zsC)]) := ⟨G2.out, fun x hx => by simp at hx; subst hx; exact ⟨by show w.heap.size ≤ ob; rw [HOB.out]; omega, BO2.out⟩, by simp⟩
        clear G BF BO CC g P cf BO2 G2
        have c1 := R.out.cell1
        have lb := R.out.blk.lt
        have z0 := O3.out.cell 0 0 rfl rfl; have z1 := O3.out.cell 0 1 rfl rfl; have z2 := O3.out.cell 0 2 rfl rfl; have z3 := O3.out.cell 0 3 rfl rfl; have z4 := O3.out.cell 0 4 rfl rfl; have z5 := O3.out.cell 0 5 rfl rfl; have z6 := O3.out.cell 0 6 rfl rfl; have z7 := O3.out.cell 0 7 rfl rfl; have z8 := O3.out.cell 0 8 rfl rfl; have z9 := O3.out.cell 0 9 rfl rfl; have fz0 := O3.out.free 0 0 rfl; have fz1 := O3.out.free 0 1 rfl; have fz2 := O3.out.free 0 2 rfl; have fz3 := O3.out.free 0 3 rfl; have fz4 := O3.out.free 0 4 rfl; have fz5 := O3.out.free 0 5 rfl; have fz6 := O3.out.free 0 6 rfl; have fz7 := O3.out.free 0 7 rfl; have fz8 := O3.out.free 0 8 rfl; have fz9 := O3.out.free 0 9 rfl; have bz := O3.out.lt 0 rfl
        go_upto_region 7 with fail
        go_region_held3 (fun w' => w'.cell? ⟨rb, 1, none⟩ = some (.int .i64 (pl : Int))) (go_keep) (fail)
        have e0 := set_same (O3.out.get 0 rfl) (j := 0) rfl; have e1 := set_same (O3.out.get 0 rfl) (j := 1) rfl; have e2 := set_same (O3.out.get 0 rfl) (j := 2) rfl; have e3 := set_same (O3.out.get 0 rfl) (j := 3) rfl; have e4 := set_same (O3.out.get 0 rfl) (j := 4) rfl; have e5 := set_same (O3.out.get 0 rfl) (j := 5) rfl; have e6 := set_same (O3.out.get 0 rfl) (j := 6) rfl; have e7 := set_same (O3.out.get 0 rfl) (j := 7) rfl; have e8 := set_same (O3.out.get 0 rfl) (j := 8) rfl; have e9 := set_same (O3.out.get 0 rfl) (j := 9) rfl; simp only [e0, e1, e2, e3, e4, e5, e6, e7, e8, e9]
        go_wp2
        refine bodyPost_ret (v := .tuple #[.agg #[.int .i64 0, .int .i64 0, .int .i64 0, .int .i64 0, .int .i64 0, .int .i64 0, .slice none 0 0, .slice none 0 0, .slice none 0 0, .slice none 0 0], .int .i64 pl, .int .i64 er]) ?_ rfl ?_
        · simp [results, Try.results10, go_sem, z0, z1, z2, z3, z4, z5, z6, z7, z8, z9]
        · exact ⟨gb_drew O3.out.grow, .inr ⟨pl, er, rfl, hne, E⟩⟩
    · obtain rfl : k = 5 := by omega
      obtain ⟨s, fv, dv, av, pv, E0, R0, O0⟩ := P.out
      obtain ⟨fa, fc, da, dc, aa, ac, pa, pc, rfl, rfl, rfl, rfl⟩ := cells_of O0
      have E := Lib.hid E0
      have R := Lib.hid R0
      have O := Lib.hid O0
      obtain ⟨⟨co, ct, cr, ck, cm, cw⟩, f, d, A, p⟩ := s
      clear E0 R0 O0 P BF hk hlt
      have O3 : Hid (Own w wr [(ob, 30, zsC)]) := ⟨G.out, fun x hx => by simp at hx; subst hx; exact ⟨by show w.heap.size ≤ ob; rw [HOB.out]; omega, BO.out⟩, by simp⟩
      have lb := R.out.blk.lt
      have q2 := R.out.cellS 0 (v := .int .i64 co) rfl
      have q3 := R.out.cellS 1 (v := .int .i64 ct) rfl
      have q4 := R.out.cellS 2 (v := .int .i64 cr) rfl
      have q5 := R.out.cellS 3 (v := .int .i64 ck) rfl
      have q6 := R.out.cellS 4 (v := .int .i64 cm) rfl
      have q7 := R.out.cellS 5 (v := .int .i64 cw) rfl
      have q8 := R.out.cellS 6 rfl
      have q9 := R.out.cellS 7 rfl
      have q10 := R.out.cellS 8 rfl
      have q11 := R.out.cellS 9 rfl
      simp only [Nat.reduceAdd, Nat.zero_add] at q2 q3 q4 q5 q6 q7 q8 q9 q10 q11
      have z0 := O3.out.cell 0 0 rfl rfl; have z1 := O3.out.cell 0 1 rfl rfl; have z2 := O3.out.cell 0 2 rfl rfl; have z3 := O3.out.cell 0 3 rfl rfl; have z4 := O3.out.cell 0 4 rfl rfl; have z5 := O3.out.cell 0 5 rfl rfl; have z6 := O3.out.cell 0 6 rfl rfl; have z7 := O3.out.cell 0 7 rfl rfl; have z8 := O3.out.cell 0 8 rfl rfl; have z9 := O3.out.cell 0 9 rfl rfl; have fz0 := O3.out.free 0 0 rfl; have fz1 := O3.out.free 0 1 rfl; have fz2 := O3.out.free 0 2 rfl; have fz3 := O3.out.free 0 3 rfl; have fz4 := O3.out.free 0 4 rfl; have fz5 := O3.out.free 0 5 rfl; have fz6 := O3.out.free 0 6 rfl; have fz7 := O3.out.free 0 7 rfl; have fz8 := O3.out.free 0 8 rfl; have fz9 := O3.out.free 0 9 rfl; have bz := O3.out.lt 0 rfl
      have GG := fun v0 v1 v2 v3 v4 v5 v6 v7 v8 v9 => gb_set10 G.out ob (by rw [HOB.out]; omega) v0 v1 v2 v3 v4 v5 v6 v7 v8 v9
      have OO := fun v0 v1 v2 v3 v4 v5 v6 v7 v8 v9 => own_set10 O.out BO.out v0 v1 v2 v3 v4 v5 v6 v7 v8 v9
      clear O3
      have GG := Lib.hid GG
      have OO := Lib.hid OO
      go_wp2
      refine bodyPost_ret (v := .tuple #[.agg #[.int .i64 co, .int .i64 ct, .int .i64 cr, .int .i64 ck, .int .i64 cm, .int .i64 cw, .slice fa f.length fc, .slice da d.length dc, .slice aa A.length ac, .slice pa p.length pc], .int .i64 (-1), .int .i64 0]) ?_ rfl ?_
      · simp [results, Try.results10, go_sem, *]
      · exact ⟨GG.out _ _ _ _ _ _ _ _ _ _, .inl ⟨_, _, _, _, _, rfl, E, by rw [← HOB.out]; exact OO.out _ _ _ _ _ _ _ _ _ _⟩⟩
end Go.Proofs.Ytinmhefkmjlelaa.sc

/- What the statements of layer 20 ask: how great a script is; the document's as a script; the document's example. -/
namespace Go.Proofs.Ytinmhefkmjlelaa.sc
open Go Go.RowKit Go.Proofs.Ytinmhefkmjlelaa.base Go.Proofs.Ytinmhefkmjlelaa.lg Go.Proofs.Ytinmhefkmjlelaa.md
set_option linter.unusedVariables false
set_option linter.unusedSimpArgs false
set_option maxRecDepth 100000

def smX (x : List Op3) : Bool := decide (x.length ≤ 20)

def smT (t : List (List Op3)) : Bool := decide (t.length ≤ 20) && t.all smX

/-- Are these few enough for the statements? -/
def small (f : List Int) (A : List (List (List Op3))) : Bool := decide (f.length ≤ 20) && (decide (A.length ≤ 10) && A.all smT)

def fits (s : Scr) : Bool := decide (s.picks.length ≤ 1000) && (decide (s.draws.length ≤ 1000) && small s.first s.all)

theorem fits_at {s : Scr} (h : fits s = true) : s.picks.length ≤ 1000 ∧ s.draws.length ≤ 1000 ∧ s.first.length ≤ 20 ∧ s.all.length ≤ 10 ∧ (∀ t ∈ s.all, t.length ≤ 20) ∧ ∀ t ∈ s.all, ∀ x ∈ t, x.length ≤ 20 := by
  unfold fits small at h
  simp only [Bool.and_eq_true, decide_eq_true_eq, List.all_eq_true] at h
  obtain ⟨h1, h2, h3, h4, h5⟩ := h
  have key : ∀ t ∈ s.all, t.length ≤ 20 ∧ ∀ x ∈ t, x.length ≤ 20 := fun t ht => by
    have := h5 t ht
    unfold smT smX at this
    simpa using this
  exact ⟨h1, h2, h3, h4, fun t ht => (key t ht).1, fun t ht => (key t ht).2⟩

/-- What Great answers. -/
def gI (b : Bool) : Int := if b then 0 else 1

theorem gI_false {b : Bool} (h : b = false) : gI b = 1 := by rw [h]; rfl

theorem gI_true {b : Bool} (h : b = true) : gI b = 0 := by rw [h]; rfl

set_option maxHeartbeats 2000000 in
theorem great16_any (z0 z1 z2 z3 z4 z5 : Value) (fa : Option Addr) (fc : Nat) (f : List Int) (da : Option Addr) (dc : Nat) (aa : Option Addr) (ac : Nat) (A : List (List (List Op3))) (w : World) (hA : Lies w (TxsAt w) aa A) : Calls Try.prog 26 #[.agg #[z0, z1, z2, z3, z4, z5, .slice fa f.length fc, .slice none 0 0, .slice aa A.length ac]] w fun r w' => r = .returned (.int .i64 (gI (small f A))) ∧ Hid (w.grownBy w' none) := by
  have A1 := Lib.hid hA
  clear hA
  obtain ⟨bb, hbb⟩ : ∃ bb, bb = gI (small f A) := ⟨_, rfl⟩
  rw [← hbb]
  have HB := Lib.hid hbb
  clear hbb
  have O1 : Hid (Own w (w.alloc (.cells #[z0, z1, z2, z3, z4, z5, .slice fa f.length fc, .slice none 0 0, .slice aa A.length ac] 67)) [(w.heap.size, 67, [z0, z1, z2, z3, z4, z5, .slice fa f.length fc, .slice none 0 0, .slice aa A.length ac])]) := (Own.start w).alloc 67 [z0, z1, z2, z3, z4, z5, .slice fa f.length fc, .slice none 0 0, .slice aa A.length ac]
  have G1 := Lib.hid O1.out.grow
  by_cases hf : 20 < f.length
  · have hfI : (20 : Int) < (f.length : Int) := by omega
    have EE := Lib.hid (HB.out.trans (gI_false (show small f A = false by unfold small; simp; omega)))
    go_enter Try.func26, Try.ntmps26
    go_wp2
    go_ret
    exact ⟨by rw [EE.out]; rfl, G1⟩
  have hfd : decide ((20 : Int) < (f.length : Int)) = false := by simp; omega
  by_cases ha : 10 < A.length
  · have haI : (10 : Int) < (A.length : Int) := by omega
    have EE := Lib.hid (HB.out.trans (gI_false (show small f A = false by unfold small; simp; omega)))
    go_enter Try.func26, Try.ntmps26
    go_wp2
    go_ret
    exact ⟨by rw [EE.out]; rfl, G1⟩
  have had : decide ((10 : Int) < (A.length : Int)) = false := by simp; omega
  have HF := Lib.hid hf
  have HA := Lib.hid ha
  clear hf
  go_enter Try.func26, Try.ntmps26
  go_wp2_with fail
  generalize w.alloc _ = v at *
  generalize w.heap.size = sb at *
  clear hfd had
  go_loopw [3] (fun iv wr => ∃ k : Nat, k ≤ A.length ∧ iv = .int .i64 k ∧ Hid ((A.take k).all smT = true) ∧ Hid (wr = v)) (fun iv _ => (A.length - intOf iv).toNat)
  case atStart => exact ⟨0, by omega, rfl, by simp [Lib.hid, Hid], rfl⟩
  case round =>
    obtain ⟨k, hk, rfl, T, E⟩ := hrel
    have E' := E.out
    subst E'
    have x8 := O1.out.cell 0 8 rfl rfl
    by_cases hlt : k < A.length
    · have hltI : (k : Int) < (A.length : Int) := by omega
      obtain ⟨t, ht⟩ : ∃ t, A[k]? = some t := ⟨_, List.getElem?_eq_getElem hlt⟩
      have HX := Lib.hid ht
      obtain ⟨b, off, u, rfl, hb, cx, a2, c2, rfl, Z2⟩ := A1.out.at ht
      have cx := G1.out.cell cx (by simp)
      have Y := Lib.hid Z2
      clear ht Z2
      by_cases h6 : 20 < t.length
      · have EE := Lib.hid (HB.out.trans (gI_false (show small f A = false by unfold small; rw [all_bad HX.out (by unfold smT; simp; omega)]; simp)))
        have h6I : (20 : Int) < (t.length : Int) := by omega
        go_wp2
        go_ret
        exact ⟨by rw [EE.out]; rfl, G1⟩
      have h6d : decide ((20 : Int) < (t.length : Int)) = false := by simp; omega
      go_wp2_with fail
      go_loopw [4] (fun jv wr2 => ∃ m : Nat, m ≤ t.length ∧ jv = .int .i64 m ∧ Hid ((t.take m).all smX = true) ∧ Hid (wr2 = wr)) (fun jv _ => (t.length - intOf jv).toNat)
      case atStart => exact ⟨0, by omega, rfl, by simp [Lib.hid, Hid], rfl⟩
      case round =>
        obtain ⟨m, hm, rfl, T1, E2⟩ := hrel
        have E2' := E2.out
        subst E2'
        by_cases hmt : m < t.length
        · have hmtI : (m : Int) < (t.length : Int) := by omega
          obtain ⟨x, hx⟩ : ∃ x, t[m]? = some x := ⟨_, List.getElem?_eq_getElem hmt⟩
          have HY := Lib.hid hx
          obtain ⟨b2, off2, v2, rfl, hb2, cy, a3, c3, rfl, Z3⟩ := Y.out.at hx
          have cy := G1.out.cell cy (by simp)
          clear hx Z3
          by_cases h7 : 20 < x.length
          · have EE := Lib.hid (HB.out.trans (gI_false (show small f A = false by unfold small; rw [all_bad HX.out (by unfold smT; rw [all_bad HY.out (by unfold smX; simp; omega)]; simp)]; simp)))
            have h7I : (20 : Int) < (x.length : Int) := by omega
            go_wp2
            go_ret
            exact ⟨by rw [EE.out]; rfl, G1⟩
          · have h7d : decide ((20 : Int) < (x.length : Int)) = false := by simp; omega
            have T2 := Lib.hid (show (t.take (m + 1)).all smX = true by rw [all_succ HY.out, T1.out]; unfold smX; simp; omega)
            go_wp2
            go_roundw
            case rel => exact ⟨m + 1, by omega, by go_num, T2, by first | exact trivial | rfl⟩
            case measure => simp [intOf]; omega
        · obtain rfl : m = t.length := by omega
          have T2 := Lib.hid (show (A.take (k + 1)).all smT = true by
            rw [all_succ HX.out, T.out]
            have := T1.out
            rw [List.take_length] at this
            unfold smT
            rw [this]
            simp
            omega)
          go_wp2
          go_roundw
          case rel => exact ⟨k + 1, by omega, by go_num, T2, by first | exact trivial | rfl⟩
          case measure => simp [intOf]; omega
    · obtain rfl : k = A.length := by omega
      have EE := Lib.hid (show bb = 0 by
        rw [HB.out]
        refine gI_true ?_
        have := T.out
        rw [List.take_length] at this
        have h1 := HF.out
        have h2 := HA.out
        unfold small
        rw [this]
        simp
        omega)
      go_wp2
      go_ret
      exact ⟨by rw [EE.out]; rfl, G1⟩
end Go.Proofs.Ytinmhefkmjlelaa.sc

/- What the statements of layer 20 ask: how great a script is; the document's as a script; the document's example. -/
namespace Go.Proofs.Ytinmhefkmjlelaa.sc
open Go Go.RowKit Go.Proofs.Ytinmhefkmjlelaa.base Go.Proofs.Ytinmhefkmjlelaa.lg Go.Proofs.Ytinmhefkmjlelaa.md
set_option linter.unusedVariables false
set_option linter.unusedSimpArgs false
set_option maxRecDepth 100000

set_option maxHeartbeats 2000000 in
theorem great_any (s : Scr) (fv dv av pv : Value) (w : World) (hs : ScrAt w s fv dv av pv) : Calls Try.prog 13 #[.agg ⟨cfC s.c ++ [fv, dv, av, pv]⟩] w fun r w' => r = .returned (.bool (!fits s)) ∧ Hid (w.grownBy w' none) := by
  obtain ⟨⟨fa, fc, rfl, f1⟩, ⟨da, dc, rfl, d1⟩, ⟨aa, ac, rfl, a1⟩, ⟨pa, pc, rfl, p1⟩⟩ := hs
  obtain ⟨⟨co, ct, cr, ck, cm, cw⟩, f, d, A, p⟩ := s
  dsimp only at *
  have A1 := Lib.hid a1
  clear f1 d1 a1 p1
  have O1 : Hid (Own w (w.alloc (.cells #[.int .i64 co, .int .i64 ct, .int .i64 cr, .int .i64 ck, .int .i64 cm, .int .i64 cw, .slice fa f.length fc, .slice da d.length dc, .slice aa A.length ac, .slice pa p.length pc] 34)) [(w.heap.size, 34, [.int .i64 co, .int .i64 ct, .int .i64 cr, .int .i64 ck, .int .i64 cm, .int .i64 cw, .slice fa f.length fc, .slice da d.length dc, .slice aa A.length ac, .slice pa p.length pc])]) := (Own.start w).alloc 34 [.int .i64 co, .int .i64 ct, .int .i64 cr, .int .i64 ck, .int .i64 cm, .int .i64 cw, .slice fa f.length fc, .slice da d.length dc, .slice aa A.length ac, .slice pa p.length pc]
  have G1 := Lib.hid O1.out.grow
  obtain ⟨bb, hbb⟩ : ∃ bb, bb = !fits ⟨⟨co, ct, cr, ck, cm, cw⟩, f, d, A, p⟩ := ⟨_, rfl⟩
  rw [← hbb]
  have HB := Lib.hid hbb
  clear hbb
  show Calls Try.prog 13 #[.agg #[.int .i64 co, .int .i64 ct, .int .i64 cr, .int .i64 ck, .int .i64 cm, .int .i64 cw, .slice fa f.length fc, .slice da d.length dc, .slice aa A.length ac, .slice pa p.length pc]] w _
  by_cases hp : 1000 < p.length
  · have hpI : (1000 : Int) < (p.length : Int) := by omega
    have EE := Lib.hid (HB.out.trans (show (!fits ⟨⟨co, ct, cr, ck, cm, cw⟩, f, d, A, p⟩) = true by unfold fits; simp; omega))
    go_enter Try.func13, Try.ntmps13
    go_wp2
    go_ret
    exact ⟨by rw [EE.out]; rfl, G1⟩
  have hpd : decide ((1000 : Int) < (p.length : Int)) = false := by simp; omega
  by_cases hd : 1000 < d.length
  · have hdI : (1000 : Int) < (d.length : Int) := by omega
    have EE := Lib.hid (HB.out.trans (show (!fits ⟨⟨co, ct, cr, ck, cm, cw⟩, f, d, A, p⟩) = true by unfold fits; simp; omega))
    go_enter Try.func13, Try.ntmps13
    go_wp2
    go_ret
    exact ⟨by rw [EE.out]; rfl, G1⟩
  have hdd : decide ((1000 : Int) < (d.length : Int)) = false := by simp; omega
  have EE := Lib.hid (HB.out.trans (show (!fits ⟨⟨co, ct, cr, ck, cm, cw⟩, f, d, A, p⟩) = !small f A by
    unfold fits
    rw [show decide (p.length ≤ 1000) = true by simp; omega, show decide (d.length ≤ 1000) = true by simp; omega]
    rfl))
  clear hp hd
  go_enter Try.func13, Try.ntmps13
  go_wp2_with fail
  generalize w.alloc _ = v at *
  generalize w.heap.size = sb at *
  refine (great16_any _ _ _ _ _ _ fa fc f none 0 aa ac A v (A1.out.keep (fun _ _ h => h.grown G1.out) G1.out)).mono ?_
  rintro r u ⟨rfl, g⟩
  have G2 := Lib.hid (gb_trans G1.out g.out)
  cases hs : small f A with
  | true =>
    have E3 := Lib.hid (show bb = false by rw [EE.out, hs]; rfl)
    go_wp2
    go_ret
    exact ⟨by rw [E3.out]; rfl, G2⟩
  | false =>
    have E3 := Lib.hid (show bb = true by rw [EE.out, hs]; rfl)
    go_wp2
    go_ret
    exact ⟨by rw [E3.out]; rfl, G2⟩

theorem of_any (c : Cfg) (fa : Option Addr) (fn fc : Nat) (da : Option Addr) (dn dc : Nat) (aa : Option Addr) (an ac : Nat) (pa : Option Addr) (pn pc : Nat) (w : World) : Calls Try.prog 16 #[.agg ⟨cfC c ++ [.slice fa fn fc, .slice da dn dc, .slice aa an ac, .slice pa pn pc]⟩] w fun r w' => r = .returned (.agg ⟨cfC c ++ [.slice fa fn fc, .slice da dn dc, .slice aa an ac, .slice pa pn pc]⟩) ∧ Hid (w.grownBy w' none) := by
  obtain ⟨co, ct, cr, ck, cm, cw⟩ := c
  have O2 : Hid (Own w ((w.alloc (.cells #[.int .i64 co, .int .i64 ct, .int .i64 cr, .int .i64 ck, .int .i64 cm, .int .i64 cw, .slice fa fn fc, .slice da dn dc, .slice aa an ac, .slice pa pn pc] 34)).alloc (.cells #[.int .i64 0, .int .i64 0, .int .i64 0, .int .i64 0, .int .i64 0, .int .i64 0, .slice none 0 0, .slice none 0 0, .slice none 0 0, .slice none 0 0] 30)) [(w.heap.size + 1, 30, [.int .i64 0, .int .i64 0, .int .i64 0, .int .i64 0, .int .i64 0, .int .i64 0, .slice none 0 0, .slice none 0 0, .slice none 0 0, .slice none 0 0]), (w.heap.size, 34, [.int .i64 co, .int .i64 ct, .int .i64 cr, .int .i64 ck, .int .i64 cm, .int .i64 cw, .slice fa fn fc, .slice da dn dc, .slice aa an ac, .slice pa pn pc])]) := by
    have X := ((Own.start w).alloc 34 [.int .i64 co, .int .i64 ct, .int .i64 cr, .int .i64 ck, .int .i64 cm, .int .i64 cw, .slice fa fn fc, .slice da dn dc, .slice aa an ac, .slice pa pn pc]).alloc 30 [.int .i64 0, .int .i64 0, .int .i64 0, .int .i64 0, .int .i64 0, .int .i64 0, .slice none 0 0, .slice none 0 0, .slice none 0 0, .slice none 0 0]
    simp only [size_alloc] at X
    exact X
  have hge : w.heap.size ≤ w.heap.size + 1 := by omega
  show Calls Try.prog 16 #[.agg #[.int .i64 co, .int .i64 ct, .int .i64 cr, .int .i64 ck, .int .i64 cm, .int .i64 cw, .slice fa fn fc, .slice da dn dc, .slice aa an ac, .slice pa pn pc]] w _
  go_enter Try.func16, Try.ntmps16
  go_wp2
  refine bodyPost_ret (v := .agg #[.int .i64 co, .int .i64 ct, .int .i64 cr, .int .i64 ck, .int .i64 cm, .int .i64 cw, .slice fa fn fc, .slice da dn dc, .slice aa an ac, .slice pa pn pc]) ?_ rfl ?_
  · simp [results, Try.results16, go_sem]
  · exact ⟨rfl, gb_alloc (gb_alloc (gb_refl _ _) _) _⟩

/-- The document's example. -/
def exL : List Int := [1, 1, 0, 9, 5, 1, 2, 7, 0, 0]

theorem ex_got : getS exL = .ok ⟨⟨1, 1, 9, 5, 1, 2⟩, [7], [], [[]], []⟩ := by rfl

set_option maxHeartbeats 4000000 in
theorem alive_any (w : World) : Calls Try.prog 9 #[] w fun r w' => r = .returned (.bool true) ∧ Hid (w.grownBy w' none) := by
  have B1 := Blk.made w 5 #[.int .u8 1, .int .u8 1, .int .u8 0, .int .u8 9, .int .u8 5, .int .u8 1, .int .u8 2, .int .u8 7, .int .u8 0, .int .u8 0]
  have N1 : IsB (w.alloc (.cells #[.int .u8 1, .int .u8 1, .int .u8 0, .int .u8 9, .int .u8 5, .int .u8 1, .int .u8 2, .int .u8 7, .int .u8 0, .int .u8 0] 5)) (some ⟨w.heap.size, 0, none⟩) exL :=
    ⟨IsNums.of_blk (t := 5) B1, by intro b hb; simp [exL] at hb; omega⟩
  have G1 := Lib.hid (World.grownBy_alloc w (.cells #[.int .u8 1, .int .u8 1, .int .u8 0, .int .u8 9, .int .u8 5, .int .u8 1, .int .u8 2, .int .u8 7, .int .u8 0, .int .u8 0] 5) none)
  have HG := Lib.hid (got_any (some ⟨w.heap.size, 0, none⟩) 10 exL _ N1 (by decide) (by decide) (by decide))
  clear B1 N1
  go_enter Try.func9, Try.ntmps9
  go_wp2_with fail
  generalize w.alloc _ = v at *
  refine HG.out.mono ?_
  rintro r u ⟨g, ⟨s, fv, dv, av, pv, hr, E, O⟩ | ⟨pl, er, rfl, he, E⟩⟩
  · have es : (Except.ok s : Except (Nat × Int) Scr) = .ok ⟨⟨1, 1, 9, 5, 1, 2⟩, [7], [], [[]], []⟩ := E.out.symm.trans ex_got
    cases es
    obtain ⟨fa, fc, da, dc, aa, ac, pa, pc, rfl, rfl, rfl, rfl⟩ := cells_of O.out
    obtain rfl : r = .returned (.tuple #[.agg #[.int .i64 1, .int .i64 1, .int .i64 9, .int .i64 5, .int .i64 1, .int .i64 2, .slice fa 1 fc, .slice da 0 dc, .slice aa 1 ac, .slice pa 0 pc], .int .i64 (-1), .int .i64 0]) := hr
    have G2 := Lib.hid (gb_trans G1.out g.out)
    have O3 : Hid (Own u ((u.alloc (.cells #[.int .i64 1, .int .i64 1, .int .i64 9, .int .i64 5, .int .i64 1, .int .i64 2, .slice fa 1 fc, .slice da 0 dc, .slice aa 1 ac, .slice pa 0 pc] 30)).alloc (.cells #[.int .i64 7] 2)) [(u.heap.size + 1, 2, [.int .i64 7]), (u.heap.size, 30, [.int .i64 1, .int .i64 1, .int .i64 9, .int .i64 5, .int .i64 1, .int .i64 2, .slice fa 1 fc, .slice da 0 dc, .slice aa 1 ac, .slice pa 0 pc])]) := by
      have X := ((Own.start u).alloc 30 [.int .i64 1, .int .i64 1, .int .i64 9, .int .i64 5, .int .i64 1, .int .i64 2, .slice fa 1 fc, .slice da 0 dc, .slice aa 1 ac, .slice pa 0 pc]).alloc 2 [.int .i64 7]
      simp only [size_alloc] at X
      exact X
    have RF : vl.Rd u fa [7] := by
      obtain ⟨a', c', e, N⟩ := O.out.at.f
      cases e
      exact rd_of N
    clear G1 g HG E O
    go_wp2_with fail
    generalize (u.alloc _).alloc _ = u2 at *
    generalize u.heap.size + 1 = sb at *
    generalize u.heap.size = tb at *
    have RG : vl.Rd u2 (some ⟨sb, 0, none⟩) [7] := .inr ⟨sb, 0, rfl, fun i x hx => by
      have hi := (List.getElem?_eq_some_iff.1 hx).1
      simp at hi
      subst hi
      simp at hx
      subst hx
      exact O3.out.cell 0 0 rfl rfl⟩
    refine (vl.vals_true fa (some ⟨sb, 0, none⟩) [7] 1 rfl fc 1 u2 (RF.grown O3.out.grow (by simp)) RG (by decide)).mono ?_
    rintro r u3 ⟨q, rfl, rfl⟩
    have O4 := Lib.hid (O3.out.drewN q)
    have c7 := O4.out.cell 1 7 rfl rfl
    have c8 := O4.out.cell 1 8 rfl rfl
    have c9 := O4.out.cell 1 9 rfl rfl
    have G4 := Lib.hid (gb_trans G2.out O4.out.grow)
    clear O3 RF RG G2
    generalize u2.drewN q = u4 at *
    go_wp2
    go_ret
    exact ⟨rfl, G4⟩
  · have es : (Except.error (pl, er) : Except (Nat × Int) Scr) = .ok ⟨⟨1, 1, 9, 5, 1, 2⟩, [7], [], [[]], []⟩ := E.out.symm.trans ex_got
    cases es
end Go.Proofs.Ytinmhefkmjlelaa.sc

/- Package script's Ok. -/
namespace Go.Proofs.Ytinmhefkmjlelaa.sc
open Go Go.RowKit Go.Proofs.Ytinmhefkmjlelaa.base Go.Proofs.Ytinmhefkmjlelaa.lg Go.Proofs.Ytinmhefkmjlelaa.md Go.Proofs.Ytinmhefkmjlelaa.fl
set_option linter.unusedVariables false
set_option linter.unusedSimpArgs false
set_option maxRecDepth 100000

theorem okC_ok (c : Cfg) : okC c.ob c.th c.re c.ti c.ma c.wa = c.ok := by
  unfold okC inB Cfg.ok
  simp only [Bool.decide_and, Bool.and_assoc]

theorem scr_ok (s : Scr) (hd : Bytes s.draws) : s.ok = (s.c.ok && (decide (2 * s.c.ob ≤ s.c.re) && (decide ((s.first.length : Int) = s.c.ob) && (inR (-128) 127 s.first && (decide ((s.all.length : Int) = s.c.th) && (s.all.all (thOk s.c.ob) && (decide (s.draws.length ≤ 255) && inR 0 255 s.picks))))))) := by
  have h1 : s.draws.all (fun x => decide (0 ≤ x ∧ x ≤ 255)) = true := by
    rw [List.all_eq_true]
    intro x hx
    simpa using hd x hx
  unfold Scr.ok
  rw [h1]
  unfold inR
  by_cases hf : (s.first.length : Int) = s.c.ob
  · rw [hf]
    simp only [Bool.and_true, Bool.and_assoc, decide_true, Bool.true_and]
  · simp [hf]

set_option maxHeartbeats 2000000 in
theorem ok_script (s : Scr) (fv dv av pv : Value) (w : World) (hs : ScrAt w s fv dv av pv) (hd : Bytes s.draws) (h1 : s.first.length ≤ 100000) (h2 : s.all.length ≤ 100000) (h3 : s.picks.length ≤ 100000) (h4 : s.draws.length ≤ 100000) : Calls Try.prog 17 #[.agg ⟨cfC s.c ++ [fv, dv, av, pv]⟩] w fun r w' => r = .returned (.bool s.ok) ∧ Hid (w.grownBy w' none) := by
  rw [scr_ok s hd]
  have H := Lib.hid hs
  obtain ⟨⟨fa, fc, rfl, f1⟩, ⟨da, dc, rfl, d1⟩, ha, ⟨pa, pc, rfl, p1⟩⟩ := hs
  obtain ⟨⟨co, ct, cr, ck, cm, cw⟩, f, d, A, p⟩ := s
  dsimp only at *
  have ha' := ha
  obtain ⟨aa, ac, rfl, _⟩ := ha'
  have F1 := Lib.hid f1
  have A1 := Lib.hid ha
  have P1 := Lib.hid p1
  clear f1 d1 ha p1 hd H
  obtain ⟨bb, hbb⟩ : ∃ bb, bb = (Cfg.ok ⟨co, ct, cr, ck, cm, cw⟩ && (decide (2 * co ≤ cr) && (decide ((f.length : Int) = co) && (inR (-128) 127 f && (decide ((A.length : Int) = ct) && (A.all (thOk co) && (decide (d.length ≤ 255) && inR 0 255 p))))))) := ⟨_, rfl⟩
  rw [← hbb]
  have HB := Lib.hid hbb
  clear hbb
  have O1 : Hid (Own w (w.alloc (.cells #[.int .i64 co, .int .i64 ct, .int .i64 cr, .int .i64 ck, .int .i64 cm, .int .i64 cw, .slice fa f.length fc, .slice da d.length dc, .slice aa A.length ac, .slice pa p.length pc] 30)) [(w.heap.size, 30, [.int .i64 co, .int .i64 ct, .int .i64 cr, .int .i64 ck, .int .i64 cm, .int .i64 cw, .slice fa f.length fc, .slice da d.length dc, .slice aa A.length ac, .slice pa p.length pc])]) := (Own.start w).alloc 30 [.int .i64 co, .int .i64 ct, .int .i64 cr, .int .i64 ck, .int .i64 cm, .int .i64 cw, .slice fa f.length fc, .slice da d.length dc, .slice aa A.length ac, .slice pa p.length pc]
  show Calls Try.prog 17 #[.agg #[.int .i64 co, .int .i64 ct, .int .i64 cr, .int .i64 ck, .int .i64 cm, .int .i64 cw, .slice fa f.length fc, .slice da d.length dc, .slice aa A.length ac, .slice pa p.length pc]] w _
  go_enter Try.func17, Try.ntmps17
  go_wp2_with fail
  generalize w.alloc _ = v at *
  generalize w.heap.size = sb at *
  refine (check_any co ct cr ck cm cw v).mono ?_
  rw [okC_ok ⟨co, ct, cr, ck, cm, cw⟩]
  rintro r u ⟨rfl, g⟩
  have O2 := Lib.hid (O1.out.grown g.out)
  clear O1 g
  have d0 := O2.out.cell 0 0 rfl rfl; have d1 := O2.out.cell 0 1 rfl rfl; have d2 := O2.out.cell 0 2 rfl rfl; have d3 := O2.out.cell 0 3 rfl rfl; have d4 := O2.out.cell 0 4 rfl rfl; have d5 := O2.out.cell 0 5 rfl rfl; have d6 := O2.out.cell 0 6 rfl rfl; have d7 := O2.out.cell 0 7 rfl rfl; have d8 := O2.out.cell 0 8 rfl rfl; have d9 := O2.out.cell 0 9 rfl rfl
  cases hc : Cfg.ok ⟨co, ct, cr, ck, cm, cw⟩ with
  | false =>
    have EE := Lib.hid (show bb = false by rw [HB.out]; simp [hc]); go_wp2; go_ret; exact ⟨by rw [EE.out]; rfl, O2.out.grow⟩
  | true =>
  have hcc := Cfg.ok_iff.1 hc
  obtain ⟨⟨a1, a2⟩, _⟩ := hcc
  dsimp only at a1 a2
  go_wp2_with fail
  refine (room_any co ct cr ck cm cw (by omega) u).mono ?_
  rintro r u3 ⟨rfl, g⟩
  have O3 := Lib.hid (O2.out.grown g.out)
  clear O2 g d0 d1 d2 d3 d4 d5 d6 d7 d8 d9
  have d0 := O3.out.cell 0 0 rfl rfl; have d1 := O3.out.cell 0 1 rfl rfl; have d2 := O3.out.cell 0 2 rfl rfl; have d3 := O3.out.cell 0 3 rfl rfl; have d4 := O3.out.cell 0 4 rfl rfl; have d5 := O3.out.cell 0 5 rfl rfl; have d6 := O3.out.cell 0 6 rfl rfl; have d7 := O3.out.cell 0 7 rfl rfl; have d8 := O3.out.cell 0 8 rfl rfl; have d9 := O3.out.cell 0 9 rfl rfl
  by_cases hr : 2 * co ≤ cr
  case neg =>
    have hrd : decide (2 * co ≤ cr) = false := by simp; omega
    have EE := Lib.hid (show bb = false by rw [HB.out]; simp [hrd]); go_wp2; go_ret; exact ⟨by rw [EE.out]; rfl, O3.out.grow⟩
  have hrd : decide (2 * co ≤ cr) = true := by simp; omega
  by_cases hf : (f.length : Int) = co
  case neg =>
    have hfd : ((f.length : Int) == co) = false := by simp; omega
    have EE := Lib.hid (show bb = false by rw [HB.out]; simp [hf]); go_wp2; go_ret; exact ⟨by rw [EE.out]; rfl, O3.out.grow⟩
  have hfd : ((f.length : Int) == co) = true := by simp; omega
  go_wp2_with fail
  refine (within64 fa fc f (-128) 127 u3 (F1.out.grown O3.out.grow) h1).mono ?_
  rintro r u4 ⟨rfl, g⟩
  have O4 := Lib.hid (O3.out.grown g.out)
  clear O3 g d0 d1 d2 d3 d4 d5 d6 d7 d8 d9
  have d0 := O4.out.cell 0 0 rfl rfl; have d1 := O4.out.cell 0 1 rfl rfl; have d2 := O4.out.cell 0 2 rfl rfl; have d3 := O4.out.cell 0 3 rfl rfl; have d4 := O4.out.cell 0 4 rfl rfl; have d5 := O4.out.cell 0 5 rfl rfl; have d6 := O4.out.cell 0 6 rfl rfl; have d7 := O4.out.cell 0 7 rfl rfl; have d8 := O4.out.cell 0 8 rfl rfl; have d9 := O4.out.cell 0 9 rfl rfl
  cases hw : inR (-128) 127 f with
  | false =>
    have EE := Lib.hid (show bb = false by rw [HB.out]; simp [hw]); go_wp2; go_ret; exact ⟨by rw [EE.out]; rfl, O4.out.grow⟩
  | true =>
  by_cases ht : (A.length : Int) = ct
  case neg =>
    have htd : ((A.length : Int) == ct) = false := by simp; omega
    have EE := Lib.hid (show bb = false by rw [HB.out]; simp [ht]); go_wp2; go_ret; exact ⟨by rw [EE.out]; rfl, O4.out.grow⟩
  have htd : ((A.length : Int) == ct) = true := by simp; omega
  go_wp2_with fail
  refine (rightAll_any (.slice aa A.length ac) A co u4 (A1.out.grown O4.out.grow) h2).mono ?_
  rintro r u5 ⟨rfl, g⟩
  have O5 := Lib.hid (O4.out.grown g.out)
  clear O4 g d0 d1 d2 d3 d4 d5 d6 d7 d8 d9
  have d0 := O5.out.cell 0 0 rfl rfl; have d1 := O5.out.cell 0 1 rfl rfl; have d2 := O5.out.cell 0 2 rfl rfl; have d3 := O5.out.cell 0 3 rfl rfl; have d4 := O5.out.cell 0 4 rfl rfl; have d5 := O5.out.cell 0 5 rfl rfl; have d6 := O5.out.cell 0 6 rfl rfl; have d7 := O5.out.cell 0 7 rfl rfl; have d8 := O5.out.cell 0 8 rfl rfl; have d9 := O5.out.cell 0 9 rfl rfl
  cases hq : A.all (thOk co) with
  | false =>
    have EE := Lib.hid (show bb = false by rw [HB.out]; simp [hq]); go_wp2; go_ret; exact ⟨by rw [EE.out]; rfl, O5.out.grow⟩
  | true =>
  by_cases hdl : d.length ≤ 255
  case neg =>
    have hdd : decide ((d.length : Int) ≤ 255) = false := by simp; omega
    have EE := Lib.hid (show bb = false by rw [HB.out]; simp [hdl]); go_wp2; go_ret; exact ⟨by rw [EE.out]; rfl, O5.out.grow⟩
  have hdd : decide ((d.length : Int) ≤ 255) = true := by simp; omega
  go_wp2_with fail
  refine (withinI pa pc p 0 255 u5 (P1.out.grown O5.out.grow) h3).mono ?_
  rintro r u6 ⟨rfl, g⟩
  have O6 := Lib.hid (O5.out.grown g.out)
  have EE := Lib.hid (show bb = inR 0 255 p by rw [HB.out, hc, hrd, hw, hq]; simp [hf, ht, hdl])
  go_wp2
  go_ret
  exact ⟨by rw [EE.out]; rfl, O6.out.grow⟩
end Go.Proofs.Ytinmhefkmjlelaa.sc

/- Package script's Put. -/
namespace Go.Proofs.Ytinmhefkmjlelaa.sc
open Go Go.RowKit Go.Proofs.Ytinmhefkmjlelaa.base Go.Proofs.Ytinmhefkmjlelaa.lg Go.Proofs.Ytinmhefkmjlelaa.md Go.Proofs.Ytinmhefkmjlelaa.fl
set_option linter.unusedVariables false
set_option linter.unusedSimpArgs false
set_option maxRecDepth 100000

theorem head_any (co ct cr ck cm cw : Int) (hc : Cfg.ok ⟨co, ct, cr, ck, cm, cw⟩ = true) (w : World) : Calls Try.prog 29 #[.agg #[.int .i64 co, .int .i64 ct, .int .i64 cr, .int .i64 ck, .int .i64 cm, .int .i64 cw]] w fun r w' => ∃ b, r = .returned (.slice (some ⟨b, 0, none⟩) 7 7) ∧ Hid (w'.ownsRow w.heap.size 5 1 (.slice (some ⟨b, 0, none⟩) 7 7) 7 (numsC .u8 (cfB ⟨co, ct, cr, ck, cm, cw⟩))) ∧ Hid (w.grownBy w' none) := by
  obtain ⟨⟨a1, a2⟩, ⟨a3, a4⟩, ⟨a5, a6⟩, ⟨a7, a8⟩, ⟨a9, a10⟩, a11, a12⟩ := Cfg.ok_iff.1 hc
  dsimp only at *
  have O := Lib.hid (show ((w.alloc (.cells #[.int .i64 co, .int .i64 ct, .int .i64 cr, .int .i64 ck, .int .i64 cm, .int .i64 cw] 25)).alloc (.cells #[.int .u8 co, .int .u8 ct, .int .u8 (cr / 256), .int .u8 (cr % 256), .int .u8 ck, .int .u8 cm, .int .u8 cw] 5)).ownsRow w.heap.size 5 1 (.slice (some ⟨w.heap.size + 1, 0, none⟩) 7 7) 7 (numsC .u8 (cfB ⟨co, ct, cr, ck, cm, cw⟩)) by
    have h := World.ownsRow_lit (base := w.heap.size) (e := 5) (size := 1) (w.alloc (.cells #[.int .i64 co, .int .i64 ct, .int .i64 cr, .int .i64 ck, .int .i64 cm, .int .i64 cw] 25)) #[.int .u8 co, .int .u8 ct, .int .u8 (cr / 256), .int .u8 (cr % 256), .int .u8 ck, .int .u8 cm, .int .u8 cw] 7 (by rw [size_alloc]; omega) (by decide) rfl
    rw [size_alloc] at h
    exact h)
  have G := Lib.hid (gb_alloc (gb_alloc (gb_refl w none) (.cells #[.int .i64 co, .int .i64 ct, .int .i64 cr, .int .i64 ck, .int .i64 cm, .int .i64 cw] 25)) (.cells #[.int .u8 co, .int .u8 ct, .int .u8 (cr / 256), .int .u8 (cr % 256), .int .u8 ck, .int .u8 cm, .int .u8 cw] 5))
  go_enter Try.func29, Try.ntmps29
  go_wp2
  go_ret
  exact ⟨w.heap.size + 1, rfl, O, G⟩

theorem numsC_append (k : IntKind) (l m : List Int) : numsC k (l ++ m) = numsC k l ++ numsC k m := by simp [numsC]

theorem numsC_len (k : IntKind) (l : List Int) : (numsC k l).length = l.length := by simp [numsC]

theorem one_numsC (k : IntKind) (l : List Int) : ∀ u ∈ numsC k l, u.oneCell' = true := by
  intro u hu
  simp only [numsC, List.mem_map] at hu
  obtain ⟨x, _, rfl⟩ := hu
  rfl

theorem NumsAt.src {k : IntKind} {w : World} {a : Option Addr} {l : List Int} (h : IsNums k w a l.length (at0 l)) : (l.length = 0 ∧ numsC k l = []) ∨ ∃ ad, a = some ad ∧ ∀ j u, (numsC k l)[j]? = some u → w.cell? (ad.add j) = some u := by
  rw [numsC_eq]
  exact h.src

theorem txB_len (l : List Op3) : (txB l).length = 1 + 3 * l.length := by
  unfold txB
  have : ∀ m : List Op3, (m.flatMap opB).length = 3 * m.length := by
    intro m
    induction m with
    | nil => rfl
    | cons x xs ih => simp [ih, opB]; omega
  rw [List.length_cons, this]
  omega

theorem flat_succ {α : Type} (f : α → List Int) {l : List α} {k : Nat} {x : α} (h : l[k]? = some x) : (l.take (k + 1)).flatMap f = (l.take k).flatMap f ++ f x := by
  rw [List.take_add_one, h]
  simp

/-- One more byte, laid in a block of its own first. -/
theorem KeepT.push {w w3 : World} {base n : Nat} {v : Value} {xs : List Value} {x : Value} (h : w.ownsRow base 5 1 v n xs) (g : (w.alloc (.cells #[x] 5)).grownBy w3 v.ownBlock) : KeepT (fun t => t ≠ 5) w w3 :=
  KeepT.trans (KeepT.grown (World.grownBy_alloc w (.cells #[x] 5) none)) (KeepT.row (ownsRow_keep h (fun b e => Below.heap_alloc _ _ b (h.lt b e).2)) g)

theorem Own.keepT {w0 w w' : World} {L : List (Nat × TypeId × List Value)} {P : TypeId → Prop} (h : Own w0 w L) (k : KeepT P w w') (hP : ∀ x ∈ L, P x.2.1) (g : w0.grownBy w' none) : Own w0 w' L :=
  ⟨g, fun x hx => ⟨(h.blk x hx).1, (h.blk x hx).2.keep (k.2 _ _ _ (h.blk x hx).2 (hP x hx))⟩, h.down⟩

set_option maxHeartbeats 2000000 in
theorem putTxns_any (w0 w : World) (g0 : w0.grownBy w none) (ba : Option Addr) (n bc : Nat) (L : List Int) (ho : w.ownsRow w0.heap.size 5 1 (.slice ba n bc) n (numsC .u8 L)) (hn : n ≤ 100000) (v : Value) (T : List (List Op3)) (nn : Int) (hnn : nn ≤ 256) (hT : TxsAt w0 T v) (hok : thOk nn T = true) : Calls Try.prog 30 #[.slice ba n bc, v] w fun r w' => ∃ b' m c', r = .returned (.slice b' m c') ∧ Hid (m ≤ n + 1 + 25 * T.length) ∧ Hid (w'.ownsRow w0.heap.size 5 1 (.slice b' m c') m (numsC .u8 (L ++ thB T))) ∧ Hid (KeepT (fun t => t ≠ 5) w w') ∧ Hid (w0.grownBy w' none) := by
  have hok' := hok
  unfold thOk at hok'
  simp only [Bool.and_eq_true, decide_eq_true_eq, List.all_eq_true] at hok'
  obtain ⟨h6, hall⟩ := hok'
  have AL := Lib.hid hall
  obtain ⟨a, c, rfl, hz⟩ := hT
  have Z := Lib.hid hz
  have G0 := Lib.hid g0
  have O0 := Lib.hid ho
  have hsz := Lib.hid g0.size
  clear hall hz g0 ho hok
  go_enter Try.func30, Try.ntmps30
  go_wp2_with (at_builtin; go_loud (refine appendU8 _ rfl (.tmp 7) (.tmp 11) rfl w0.heap.size _ n (numsC .u8 L) rfl (ownsRow_keep O0.out (fun b e => Below.heap_alloc _ _ b (O0.out.lt b e).2)) (some ⟨w.heap.size, 0, none⟩) 1 1 [.int .u8 (T.length : Int)] rfl rfl (new_src _ _ _ _ rfl) (by intro u hu; simp at hu; subst hu; rfl) (by omega) (by have := hsz.out; simp; omega) ?_); intro b2 c2 w3 ho hg hv; clear hv)
  have O1 : Hid (w3.ownsRow w0.heap.size 5 1 (.slice b2 (n + 1) c2) (n + 1) (numsC .u8 (L ++ ((T.length : Int) :: (T.take 0).flatMap txB)))) := by
    rw [numsC_append]
    exact ho
  have G1 := Lib.hid (gb_overO (gb_alloc G0.out _) hg (fun i hi => (O0.out.lt i hi).1))
  have K1 := Lib.hid (KeepT.push (x := .int .u8 (T.length : Int)) O0.out hg)
  clear ho hg O0 G0
  go_wp2_with fail
  go_loopw [0, 15] (fun bv iv wr => ∃ (k m : Nat) (b' : Option Addr) (c' : Nat), k ≤ T.length ∧ iv = .int .i64 k ∧ bv = .slice b' m c' ∧ m ≤ n + 1 + 25 * k ∧ Hid (wr.ownsRow w0.heap.size 5 1 (.slice b' m c') m (numsC .u8 (L ++ ((T.length : Int) :: (T.take k).flatMap txB)))) ∧ Hid (KeepT (fun t => t ≠ 5) w wr) ∧ Hid (w0.grownBy wr none)) (fun _ iv _ => (T.length - intOf iv).toNat)
  case atStart => exact ⟨0, n + 1, b2, c2, by omega, rfl, rfl, by omega, O1, K1, G1⟩
  case round =>
    obtain ⟨k, m, b', c', hk, rfl, rfl, hm, O, K, G⟩ := hrel
    clear O1 G1 K1
    by_cases hlt : k < T.length
    · have hltI : (k : Int) < (T.length : Int) := by omega
      obtain ⟨x, hx⟩ : ∃ x, T[k]? = some x := ⟨_, List.getElem?_eq_getElem hlt⟩
      have HX := Lib.hid hx
      have hxo := AL.out x (List.mem_of_getElem? hx)
      obtain ⟨b, off, v, rfl, hb, cx, a2, c3, rfl, Z2⟩ := Z.out.at hx
      have cx := G.out.cell cx (by simp)
      have Y := Lib.hid Z2
      have hxo' := hxo
      unfold txOk at hxo'
      simp only [Bool.and_eq_true, decide_eq_true_eq] at hxo'
      obtain ⟨⟨hx1, hx2⟩, hx3⟩ := hxo'
      have HU := Lib.hid (u8s_opZ x nn hnn hx3)
      have HF := Lib.hid (flat_succ txB hx)
      have hs1 := Lib.hid G.out.size
      clear hx Z2 hxo hx3
      go_wp2_with (at_builtin; go_loud (refine appendU8 _ rfl (.tmp 19) (.tmp 23) rfl w0.heap.size _ m (numsC .u8 (L ++ ((T.length : Int) :: (T.take k).flatMap txB))) rfl (ownsRow_keep O.out (fun b e => Below.heap_alloc _ _ b (O.out.lt b e).2)) (some ⟨wr.heap.size, 0, none⟩) 1 1 [.int .u8 (x.length : Int)] rfl rfl (new_src _ _ _ _ rfl) (by intro u hu; simp at hu; subst hu; rfl) (by omega) (by have := hs1.out; simp; omega) ?_); intro b4 c4 w4 ho hg hv; clear hv)
      have O4 := Lib.hid ho
      have K4 := Lib.hid (KeepT.trans K.out (KeepT.push (x := .int .u8 (x.length : Int)) O.out hg))
      have G4 := Lib.hid (gb_overO (gb_alloc G.out _) hg (fun i hi => (O.out.lt i hi).1))
      clear ho hg O G K cx
      go_wp2_with fail
      refine (put_any a2 x.length c3 (opZ x) w4 (Y.out.grown G4.out) (by omega)).mono ?_
      rintro r u ⟨b5, c5, rfl, R, g⟩
      have O5 := Lib.hid (ownsRow_keep O4.out (fun b e => g.out.block b (O4.out.lt b e).2 (by simp)))
      have G5 := Lib.hid (gb_trans G4.out g.out)
      have HS := Lib.hid (IsNums.src (IsNums.of_own (k := .u8) R.out))
      have hs5 := Lib.hid G5.out.size
      have K5 := Lib.hid (KeepT.trans K4.out (KeepT.grown g.out))
      clear O4 G4 R g K4
      go_wp2_with (at_builtin; go_loud (refine appendU8 _ rfl (.tmp 25) (.tmp 27) rfl w0.heap.size _ (m + 1) _ rfl O5.out b5 (x.length * 3) c5 (u8s (pb (opZ x)) (x.length * 3)) rfl (by rw [u8s_length]; omega) HS.out (one_nums _ _ _) (by omega) hs5.out ?_); intro b6 c6 w6 ho hg hv; clear hv)
      have K6 := Lib.hid (KeepT.trans K5.out (KeepT.row O5.out hg))
      have G6 := Lib.hid (gb_overO G5.out hg (fun i hi => (O5.out.lt i hi).1))
      have O6 : Hid (w6.ownsRow w0.heap.size 5 1 (.slice b6 (m + 1 + x.length * 3) c6) (m + 1 + x.length * 3) (numsC .u8 (L ++ ((T.length : Int) :: (T.take (k + 1)).flatMap txB)))) := by
        have e : numsC .u8 (L ++ ((T.length : Int) :: (T.take (k + 1)).flatMap txB)) = numsC .u8 (L ++ ((T.length : Int) :: (T.take k).flatMap txB)) ++ [.int .u8 (x.length : Int)] ++ u8s (pb (opZ x)) (x.length * 3) := by
          rw [HF.out, HU.out]
          simp [numsC, txB]
        rw [e]
        exact ho
      clear ho hg O5 G5 HS K5
      go_wp2
      go_roundw
      case rel => exact ⟨k + 1, m + 1 + x.length * 3, b6, c6, by omega, by go_num, rfl, by omega, O6, K6, G6⟩
      case measure => simp [intOf]; omega
    · obtain rfl : k = T.length := by omega
      have O2 : Hid (wr.ownsRow w0.heap.size 5 1 (.slice b' m c') m (numsC .u8 (L ++ thB T))) := by
        have := O.out
        rwa [List.take_length] at this
      go_wp2
      go_ret
      exact ⟨b', m, c', rfl, hm, O2, K, G⟩
end Go.Proofs.Ytinmhefkmjlelaa.sc

/- Package script's Put. -/
namespace Go.Proofs.Ytinmhefkmjlelaa.sc
open Go Go.RowKit Go.Proofs.Ytinmhefkmjlelaa.base Go.Proofs.Ytinmhefkmjlelaa.lg Go.Proofs.Ytinmhefkmjlelaa.md Go.Proofs.Ytinmhefkmjlelaa.fl
set_option linter.unusedVariables false
set_option linter.unusedSimpArgs false
set_option maxRecDepth 100000


/-- What Put answers. -/
def PutA (w : World) (s : Scr) (r : Ending) (w' : World) : Prop := Hid (w.grownBy w' none) ∧ ((s.ok = true ∧ ∃ b m c, r = .returned (.tuple #[.slice b m c, .int .i64 0]) ∧ m ≤ 2000 + s.picks.length ∧ Hid (w'.ownsRow w.heap.size 5 1 (.slice b m c) m (numsC .u8 (putS s)))) ∨ (s.ok = false ∧ r = .returned (.tuple #[.slice none 0 0, .int .i64 1])))

theorem head_eq (c : Cfg) (f d p : List Int) (A : List (List (List Op3))) : putS ⟨c, f, d, A, p⟩ = cfB c ++ (f.flatMap fun x => [low x]) ++ A.flatMap thB ++ [(d.length : Int)] ++ d ++ p := by
  have : (d.flatMap fun x => [x]) = d := by
    induction d with
    | nil => rfl
    | cons x xs ih => rw [List.flatMap_cons, ih]; rfl
  simp only [putS, headB, this]
  simp

set_option maxHeartbeats 4000000 in
theorem put_script (s : Scr) (fv dv av pv : Value) (w : World) (hs : ScrAt w s fv dv av pv) (hd : Bytes s.draws) (h1 : s.first.length ≤ 100000) (h2 : s.all.length ≤ 100000) (h3 : s.picks.length ≤ 100000) (h4 : s.draws.length ≤ 100000) : Calls Try.prog 15 #[.agg ⟨cfC s.c ++ [fv, dv, av, pv]⟩] w (PutA w s) := by
  have HOK := Lib.hid (fun u (g : w.grownBy u none) => ok_script s fv dv av pv u (hs.grown g) hd h1 h2 h3 h4)
  obtain ⟨⟨fa, fc, rfl, f1⟩, ⟨da, dc, rfl, d1⟩, ha, ⟨pa, pc, rfl, p1⟩⟩ := hs
  obtain ⟨⟨co, ct, cr, ck, cm, cw⟩, f, d, A, p⟩ := s
  dsimp only at *
  obtain ⟨aa, ac, rfl, a1⟩ := ha
  have F1 := Lib.hid f1
  have D1 := Lib.hid d1
  have A1 := Lib.hid a1
  have P1 := Lib.hid p1
  have HD := Lib.hid hd
  clear f1 d1 a1 p1 hd
  have O1 : Hid (Own w (w.alloc (.cells #[.int .i64 co, .int .i64 ct, .int .i64 cr, .int .i64 ck, .int .i64 cm, .int .i64 cw, .slice fa f.length fc, .slice da d.length dc, .slice aa A.length ac, .slice pa p.length pc] 30)) [(w.heap.size, 30, [.int .i64 co, .int .i64 ct, .int .i64 cr, .int .i64 ck, .int .i64 cm, .int .i64 cw, .slice fa f.length fc, .slice da d.length dc, .slice aa A.length ac, .slice pa p.length pc])]) := (Own.start w).alloc 30 [.int .i64 co, .int .i64 ct, .int .i64 cr, .int .i64 ck, .int .i64 cm, .int .i64 cw, .slice fa f.length fc, .slice da d.length dc, .slice aa A.length ac, .slice pa p.length pc]
  show Calls Try.prog 15 #[.agg #[.int .i64 co, .int .i64 ct, .int .i64 cr, .int .i64 ck, .int .i64 cm, .int .i64 cw, .slice fa f.length fc, .slice da d.length dc, .slice aa A.length ac, .slice pa p.length pc]] w _
  go_enter Try.func15, Try.ntmps15
  go_wp2_with fail
  generalize w.alloc _ = v at *
  obtain ⟨sb, hsb⟩ : ∃ sb, sb = w.heap.size := ⟨_, rfl⟩
  rw [← hsb] at O1 ⊢
  have HSB := Lib.hid hsb
  clear hsb
  refine (HOK.out v O1.out.grow).mono ?_
  rintro r u ⟨rfl, g⟩
  have O2 := Lib.hid (O1.out.grown g.out)
  clear O1 g HOK
  cases hok : Scr.ok ⟨⟨co, ct, cr, ck, cm, cw⟩, f, d, A, p⟩ with
  | false =>
    go_wp2
    go_ret2
    exact ⟨O2.out.grow, .inr ⟨hok, rfl⟩⟩
  | true =>
  have HOK := Lib.hid hok
  have hok' := hok
  unfold Scr.ok at hok'
  simp only [Bool.and_eq_true, decide_eq_true_eq, List.all_eq_true] at hok'
  obtain ⟨⟨⟨⟨⟨⟨⟨⟨q1, q2⟩, q3⟩, q4⟩, q5⟩, q6⟩, q7⟩, q8⟩, q9⟩ := hok'
  obtain ⟨⟨a1, a2⟩, ⟨a3, a4⟩, _⟩ := Cfg.ok_iff.1 q1
  have Q4 := Lib.hid q4
  have Q6 := Lib.hid q6
  have Q9 := Lib.hid q9
  dsimp only at a1 a2 a3 a4 q2 q5
  have hf8 : f.length ≤ 8 := by omega
  have hA6 : A.length ≤ 6 := by omega
  clear hok q2 q3 q4 q5 q6 q8 q9
  have d0 := O2.out.cell 0 0 rfl rfl; have d1 := O2.out.cell 0 1 rfl rfl; have d2 := O2.out.cell 0 2 rfl rfl; have d3 := O2.out.cell 0 3 rfl rfl; have d4 := O2.out.cell 0 4 rfl rfl; have d5 := O2.out.cell 0 5 rfl rfl; have d6 := O2.out.cell 0 6 rfl rfl; have d7 := O2.out.cell 0 7 rfl rfl; have d8 := O2.out.cell 0 8 rfl rfl; have d9 := O2.out.cell 0 9 rfl rfl
  go_wp2_with fail
  refine (head_any co ct cr ck cm cw q1 u).mono ?_
  rintro r u3 ⟨b, rfl, R, g⟩
  have O3 := Lib.hid (O2.out.grown g.out)
  have R3 := Lib.hid (owns_lower R.out O2.out.grow.size)
  clear O2 R g
  clear d0 d1 d2 d3 d4 d5 d6 d7 d8 d9
  have d0 := O3.out.cell 0 0 rfl rfl; have d1 := O3.out.cell 0 1 rfl rfl; have d2 := O3.out.cell 0 2 rfl rfl; have d3 := O3.out.cell 0 3 rfl rfl; have d4 := O3.out.cell 0 4 rfl rfl; have d5 := O3.out.cell 0 5 rfl rfl; have d6 := O3.out.cell 0 6 rfl rfl; have d7 := O3.out.cell 0 7 rfl rfl; have d8 := O3.out.cell 0 8 rfl rfl; have d9 := O3.out.cell 0 9 rfl rfl
  go_wp2_with fail
  have U1 : Hid (u3.ownsRow w.heap.size 5 1 (.slice (some ⟨b, 0, none⟩) 7 7) 7 (numsC .u8 (cfB ⟨co, ct, cr, ck, cm, cw⟩ ++ ((f.take 0).flatMap fun x => [low x])))) := by
    rw [List.take_zero, List.flatMap_nil, List.append_nil]
    exact R3
  clear R3
  clear d0 d1 d2 d3 d4 d5 d6 d7 d8 d9
  go_loopw [4, 20] (fun bv iv wr => ∃ (k m : Nat) (b' : Option Addr) (c' : Nat), k ≤ f.length ∧ iv = .int .i64 k ∧ bv = .slice b' m c' ∧ m ≤ 7 + k ∧ Hid (wr.ownsRow w.heap.size 5 1 (.slice b' m c') m (numsC .u8 (cfB ⟨co, ct, cr, ck, cm, cw⟩ ++ ((f.take k).flatMap fun x => [low x])))) ∧ Hid (Own w wr [(sb, 30, [.int .i64 co, .int .i64 ct, .int .i64 cr, .int .i64 ck, .int .i64 cm, .int .i64 cw, .slice fa f.length fc, .slice da d.length dc, .slice aa A.length ac, .slice pa p.length pc])])) (fun _ iv _ => (f.length - intOf iv).toNat)
  case atStart => exact ⟨0, 7, _, _, by omega, rfl, rfl, by omega, U1, O3⟩
  case round =>
    obtain ⟨k, m, b', c', hk, rfl, rfl, hm, U, O⟩ := hrel
    clear U1 O3
    have hsz := Lib.hid O.out.grow.size
    by_cases hlt : k < f.length
    · have hltI : (k : Int) < (f.length : Int) := by omega
      obtain ⟨b1, off, rfl, hb, cx⟩ := (F1.out.grown O.out.grow).at1 hlt
      have hx := at0_get hlt
      have HX := Lib.hid (mod_low (Q4.out _ (List.mem_of_getElem? hx)))
      have HF := Lib.hid (flat_succ (fun x => [low x]) hx)
      generalize at0 f k = x at *
      clear hx
      go_wp2_with (at_builtin; go_loud (refine appendU8 _ rfl (.tmp 24) (.tmp 27) rfl w.heap.size _ m _ rfl (ownsRow_keep U.out (fun b e => Below.heap_alloc _ _ b (U.out.lt b e).2)) (some ⟨wr.heap.size, 0, none⟩) 1 1 [.int .u8 (x % 256)] rfl rfl (new_src _ _ _ _ rfl) (by intro u hu; simp at hu; subst hu; rfl) (by omega) (by have := hsz.out; simp; omega) ?_); intro b4 c4 w4 ho hg hv; clear hv)
      have O4 := Lib.hid (Own.keepT O.out (KeepT.push U.out hg) (by intro y hy; simp at hy; subst hy; show (30 : TypeId) ≠ 5; decide) (gb_overO (gb_alloc O.out.grow _) hg (fun i hi => (U.out.lt i hi).1)))
      have U4 : Hid (w4.ownsRow w.heap.size 5 1 (.slice b4 (m + 1) c4) (m + 1) (numsC .u8 (cfB ⟨co, ct, cr, ck, cm, cw⟩ ++ ((f.take (k + 1)).flatMap fun x => [low x])))) := by
        rw [HF.out, ← List.append_assoc, numsC_append, ← HX.out]
        exact ho
      clear ho hg U O cx
      go_wp2
      go_roundw
      case rel => exact ⟨k + 1, m + 1, b4, c4, by omega, by go_num, rfl, by omega, U4, O4⟩
      case measure => simp [intOf]; omega
    · obtain rfl : k = f.length := by omega
      have U2 : Hid (wr.ownsRow w.heap.size 5 1 (.slice b' m c') m (numsC .u8 (cfB ⟨co, ct, cr, ck, cm, cw⟩ ++ (f.flatMap fun x => [low x]) ++ (A.take 0).flatMap thB))) := by
        have := U.out
        rw [List.take_length] at this
        rw [List.take_zero, List.flatMap_nil, List.append_nil]
        exact this
      have O2 := O
      have hm2 : m ≤ 15 := by omega
      clear U O F1 Q4 hk hlt hsz hm
      have d0 := O2.out.cell 0 0 rfl rfl; have d1 := O2.out.cell 0 1 rfl rfl; have d2 := O2.out.cell 0 2 rfl rfl; have d3 := O2.out.cell 0 3 rfl rfl; have d4 := O2.out.cell 0 4 rfl rfl; have d5 := O2.out.cell 0 5 rfl rfl; have d6 := O2.out.cell 0 6 rfl rfl; have d7 := O2.out.cell 0 7 rfl rfl; have d8 := O2.out.cell 0 8 rfl rfl; have d9 := O2.out.cell 0 9 rfl rfl
      go_wp2_with fail
      clear d0 d1 d2 d3 d4 d5 d6 d7 d8 d9
      go_loopw [4, 33] (fun bv iv wr => ∃ (k m : Nat) (b' : Option Addr) (c' : Nat), k ≤ A.length ∧ iv = .int .i64 k ∧ bv = .slice b' m c' ∧ m ≤ 15 + 160 * k ∧ Hid (wr.ownsRow w.heap.size 5 1 (.slice b' m c') m (numsC .u8 (cfB ⟨co, ct, cr, ck, cm, cw⟩ ++ (f.flatMap fun x => [low x]) ++ (A.take k).flatMap thB))) ∧ Hid (Own w wr [(sb, 30, [.int .i64 co, .int .i64 ct, .int .i64 cr, .int .i64 ck, .int .i64 cm, .int .i64 cw, .slice fa f.length fc, .slice da d.length dc, .slice aa A.length ac, .slice pa p.length pc])])) (fun _ iv _ => (A.length - intOf iv).toNat)
      case atStart => exact ⟨0, m, b', c', by omega, rfl, rfl, by omega, U2, O2⟩
      case round =>
        clear U2 O2 hm2
        obtain ⟨k, m, b', c', hk, rfl, rfl, hm, U, O⟩ := hrel
        by_cases hlt : k < A.length
        · have hltI : (k : Int) < (A.length : Int) := by omega
          obtain ⟨t, ht⟩ : ∃ t, A[k]? = some t := ⟨_, List.getElem?_eq_getElem hlt⟩
          have HF := Lib.hid (flat_succ thB ht)
          have hto := Q6.out t (List.mem_of_getElem? ht)
          have hto' := hto
          unfold thOk at hto'
          simp only [Bool.and_eq_true, decide_eq_true_eq] at hto'
          obtain ⟨ht6, _⟩ := hto'
          obtain ⟨b1, off, v, rfl, hb, cx, hT⟩ := A1.out.at ht
          have hT' := hT
          obtain ⟨a2, c2, rfl, _⟩ := hT'
          have cx := O.out.grow.cell cx (by simp)
          have HP := Lib.hid (putTxns_any w wr O.out.grow b' m c' _ U.out (by omega) (.slice a2 t.length c2) t co (by omega) hT hto)
          clear hT hto ht
          go_wp2_with fail
          refine HP.out.mono ?_
          rintro r u ⟨b4, m4, c4, rfl, hm4, U4, K4, G4⟩
          have hm4 := hm4.out
          have O4 := Lib.hid (Own.keepT O.out K4.out (by intro y hy; simp at hy; subst hy; show (30 : TypeId) ≠ 5; decide) G4.out)
          have U5 : Hid (u.ownsRow w.heap.size 5 1 (.slice b4 m4 c4) m4 (numsC .u8 (cfB ⟨co, ct, cr, ck, cm, cw⟩ ++ (f.flatMap fun x => [low x]) ++ (A.take (k + 1)).flatMap thB))) := by
            rw [HF.out, ← List.append_assoc]
            exact U4
          clear U O U4 K4 G4 HP cx
          go_wp2
          go_roundw
          case rel => exact ⟨k + 1, m4, b4, c4, by omega, by go_num, rfl, by omega, U5, O4⟩
          case measure => simp [intOf]; omega
        · obtain rfl : k = A.length := by omega
          have hm2 : m ≤ 1000 := by omega
          have hsz := Lib.hid O.out.grow.size
          rw [List.take_length] at U
          have hdb : IntKind.u8.wrap (d.length : Int) = (d.length : Int) := IntWalk.u8_in _ (by omega)
          have hdm : (d.length : Int) % 256 = (d.length : Int) := by omega
          clear hm hk hlt A1 Q6
          have d0 := O.out.cell 0 0 rfl rfl; have d1 := O.out.cell 0 1 rfl rfl; have d2 := O.out.cell 0 2 rfl rfl; have d3 := O.out.cell 0 3 rfl rfl; have d4 := O.out.cell 0 4 rfl rfl; have d5 := O.out.cell 0 5 rfl rfl; have d6 := O.out.cell 0 6 rfl rfl; have d7 := O.out.cell 0 7 rfl rfl; have d8 := O.out.cell 0 8 rfl rfl; have d9 := O.out.cell 0 9 rfl rfl
          go_wp2_with (first | (at_builtin; go_loud (refine appendU8 _ rfl (.tmp 41) (.tmp 46) rfl w.heap.size _ m _ rfl (ownsRow_keep U.out (fun b e => Below.heap_alloc _ _ b (U.out.lt b e).2)) (some ⟨wr.heap.size, 0, none⟩) 1 1 [.int .u8 (d.length : Int)] rfl rfl (new_src _ _ _ _ rfl) (by intro u hu; simp at hu; subst hu; rfl) (by omega) (by have := hsz.out; simp; omega) ?_); intro b4 c4 w4 ho hg hv; have O4 := Lib.hid (Own.keepT O.out (KeepT.push U.out hg) (by intro y hy; simp at hy; subst hy; show (30 : TypeId) ≠ 5; decide) (gb_overO (gb_alloc O.out.grow _) hg (fun i hi => (U.out.lt i hi).1))); have U4 := Lib.hid ho; clear ho hg hv; have e7 := O4.out.cell 0 7 rfl rfl; have e9 := O4.out.cell 0 9 rfl rfl; have HS := Lib.hid (NumsAt.src (D1.out.grown O4.out.grow)); have hsz4 := Lib.hid O4.out.grow.size) | (at_builtin; go_loud (refine appendU8 _ rfl (.tmp 48) (.tmp 50) rfl w.heap.size _ (m + 1) _ rfl U4.out da d.length dc (numsC .u8 d) rfl (by rw [numsC_len]; omega) HS.out (one_numsC _ _) (by omega) hsz4.out ?_); intro b6 c6 w6 ho hg hv; have O6 := Lib.hid (Own.keepT O4.out (KeepT.row U4.out hg) (by intro y hy; simp at hy; subst hy; show (30 : TypeId) ≠ 5; decide) (gb_overO O4.out.grow hg (fun i hi => (U4.out.lt i hi).1))); have U5 := Lib.hid ho; clear ho hg hv; have g9 := O6.out.cell 0 9 rfl rfl))
          have U6 : Hid (w6.ownsRow w.heap.size 5 1 (.slice b6 (m + 1 + d.length) c6) (m + 1 + d.length) (numsC .u8 (cfB ⟨co, ct, cr, ck, cm, cw⟩ ++ (f.flatMap fun x => [low x]) ++ A.flatMap thB ++ [(d.length : Int)] ++ d ++ p.take 0))) := by
            have ho := U5.out
            rw [List.take_zero, List.append_nil]
            simp only [numsC_append] at ho ⊢
            exact ho
          clear U O U4 U5 O4 HS hsz hsz4 D1 hdb hdm e7 e9 g9
          clear d0 d1 d2 d3 d4 d5 d6 d7 d8 d9
          obtain ⟨n6, hn6⟩ : ∃ n6, n6 = m + 1 + d.length := ⟨_, rfl⟩
          rw [← hn6] at U6 ⊢
          have hn7 : n6 ≤ 2000 := by omega
          clear hn6 hm2
          go_loopw [4, 55] (fun bv iv wr => ∃ (k m : Nat) (b' : Option Addr) (c' : Nat), k ≤ p.length ∧ iv = .int .i64 k ∧ bv = .slice b' m c' ∧ m ≤ 2000 + k ∧ Hid (wr.ownsRow w.heap.size 5 1 (.slice b' m c') m (numsC .u8 (cfB ⟨co, ct, cr, ck, cm, cw⟩ ++ (f.flatMap fun x => [low x]) ++ A.flatMap thB ++ [(d.length : Int)] ++ d ++ p.take k))) ∧ Hid (w.grownBy wr none)) (fun _ iv _ => (p.length - intOf iv).toNat)
          case atStart => exact ⟨0, n6, b6, c6, by omega, rfl, rfl, by omega, U6, O6.out.grow⟩
          case round =>
            clear U6 O6
            obtain ⟨k, m, b', c', hk, rfl, rfl, hm, U, O⟩ := hrel
            have hsz := Lib.hid O.out.size
            by_cases hlt : k < p.length
            · have hltI : (k : Int) < (p.length : Int) := by omega
              obtain ⟨b1, off, rfl, hb, cx⟩ := (P1.out.grown O.out).at1 hlt
              have hx := at0_get hlt
              obtain ⟨x1, x2⟩ := Q9.out _ (List.mem_of_getElem? hx)
              have HF := Lib.hid (show p.take (k + 1) = p.take k ++ [at0 p k] by rw [List.take_add_one, hx]; rfl)
              generalize at0 p k = x at *
              have hxm : x % 256 = x := by omega
              clear hx
              go_wp2_with (at_builtin; go_loud (refine appendU8 _ rfl (.tmp 59) (.tmp 62) rfl w.heap.size _ m _ rfl (ownsRow_keep U.out (fun b e => Below.heap_alloc _ _ b (U.out.lt b e).2)) (some ⟨wr.heap.size, 0, none⟩) 1 1 [.int .u8 x] rfl rfl (new_src _ _ _ _ rfl) (by intro u hu; simp at hu; subst hu; rfl) (by omega) (by have := hsz.out; simp; omega) ?_); intro b4 c4 w4 ho hg hv; clear hv)
              have O4 := Lib.hid (gb_overO (gb_alloc O.out _) hg (fun i hi => (U.out.lt i hi).1))
              have U4 : Hid (w4.ownsRow w.heap.size 5 1 (.slice b4 (m + 1) c4) (m + 1) (numsC .u8 (cfB ⟨co, ct, cr, ck, cm, cw⟩ ++ (f.flatMap fun x => [low x]) ++ A.flatMap thB ++ [(d.length : Int)] ++ d ++ p.take (k + 1)))) := by
                rw [HF.out, ← List.append_assoc, numsC_append]
                exact ho
              clear ho hg U O cx
              go_wp2
              go_roundw
              case rel => exact ⟨k + 1, m + 1, b4, c4, by omega, by go_num, rfl, by omega, U4, O4⟩
              case measure => simp [intOf]; omega
            · obtain rfl : k = p.length := by omega
              have U2 : Hid (wr.ownsRow w.heap.size 5 1 (.slice b' m c') m (numsC .u8 (putS ⟨⟨co, ct, cr, ck, cm, cw⟩, f, d, A, p⟩))) := by
                have := U.out
                rw [List.take_length] at this
                rw [head_eq]
                exact this
              go_wp2
              go_ret2
              exact ⟨O, .inl ⟨HOK.out, b', m, c', rfl, by omega, U2⟩⟩
end Go.Proofs.Ytinmhefkmjlelaa.sc

/- What the statements of layer 20 do: a script as an argument, Get and Put by what is known of their outcome, bytes that are spoilt. -/
namespace Go.Proofs.Ytinmhefkmjlelaa.sc
open Go Go.RowKit Go.Proofs.Ytinmhefkmjlelaa.base Go.Proofs.Ytinmhefkmjlelaa.lg Go.Proofs.Ytinmhefkmjlelaa.md Go.Deep
set_option linter.unusedVariables false
set_option linter.unusedSimpArgs false
set_option maxRecDepth 100000

theorem numsL_bytes {w : World} {a : Option Addr} {n c : Nat} {z : Nat → Int} (h : IsRow .u8 w a n c z) : Bytes (numsL n z) := by
  intro b hb
  obtain ⟨i, hi, rfl⟩ := List.mem_map.1 hb
  exact bytes_of h i (by simpa using hi)

/-- A script as an argument. -/
theorem script_arg {H : Type} {enc : TypeId × Value → H} {w : World} {base : Nat} {held : Bool} {fuel : Nat} {x : DataW H × List MemPlace} {cs : Array Value} (hsz : cs.size = 10) (h0 : DataW.trod enc Try.prog w base (fun _ => true) held fuel 34 (Value.agg cs).cells.toList = some x) : ∃ (s : Scr) (fv dv av pv : Value), cs = ⟨cfC s.c ++ [fv, dv, av, pv]⟩ ∧ s.c.Wf ∧ ScrAt w s fv dv av pv ∧ Bytes s.draws := by
  obtain ⟨c, fa, fn, fc, fz, da, dn, dc, dz, aa, ac, A, pa, pn, pc, pz, rfl, wf, w1, w2, w3, w4⟩ := script_of hsz h0
  exact ⟨⟨c, numsL fn fz, numsL dn dz, A.map fun l => l.map tx3, numsL pn pz⟩, _, _, _, _, rfl, wf, ⟨.of_row w1, .of_row w2, .of_is w3, .of_row w4⟩, numsL_bytes w2⟩

/-- The bytes of a script that may be are bytes. -/
theorem bytes_put {s : Scr} (h : s.ok = true) : Bytes (putS s) := by
  unfold Scr.ok at h
  simp only [Bool.and_eq_true, decide_eq_true_eq, List.all_eq_true] at h
  obtain ⟨⟨⟨⟨⟨⟨⟨⟨h1, h2⟩, h3⟩, h4⟩, h5⟩, h6⟩, h7⟩, h8⟩, h9⟩ := h
  obtain ⟨a1, a2, a3, a4, a5, a6⟩ := Cfg.ok_iff.1 h1
  have hop : ∀ o : Op3, o.ok s.c.ob = true → Bytes (opB o) := fun o ho b hb => by
    unfold Op3.ok at ho
    obtain ⟨k1, k2, k3⟩ := okB_small ho (by omega)
    have := low_byte k3
    simp only [opB, List.mem_cons, List.not_mem_nil, or_false] at hb
    rcases hb with rfl | rfl | rfl <;> omega
  have htx : ∀ l, txOk s.c.ob l = true → Bytes (txB l) := fun l hl b hb => by
    unfold txOk at hl
    simp only [Bool.and_eq_true, decide_eq_true_eq, List.all_eq_true] at hl
    unfold txB at hb
    rcases List.mem_cons.1 hb with rfl | hb
    · omega
    · obtain ⟨o, ho, hb⟩ := List.mem_flatMap.1 hb
      exact hop o (hl.2 o ho) b hb
  have hth : ∀ l, thOk s.c.ob l = true → Bytes (thB l) := fun l hl b hb => by
    unfold thOk at hl
    simp only [Bool.and_eq_true, decide_eq_true_eq, List.all_eq_true] at hl
    unfold thB at hb
    rcases List.mem_cons.1 hb with rfl | hb
    · omega
    · obtain ⟨o, ho, hb⟩ := List.mem_flatMap.1 hb
      exact htx o (hl.2 o ho) b hb
  intro b hb
  unfold putS headB at hb
  rcases List.mem_append.1 hb with hb | hb
  · rcases List.mem_append.1 hb with hb | hb
    · simp only [cfB, List.mem_cons, List.not_mem_nil, or_false] at hb
      omega
    · rcases List.mem_append.1 hb with hb | hb
      · obtain ⟨x, hx, hb⟩ := List.mem_flatMap.1 hb
        have := low_byte (h4 x hx)
        have hb' : b = low x := by simpa using hb
        omega
      · rcases List.mem_append.1 hb with hb | hb
        · obtain ⟨x, hx, hb⟩ := List.mem_flatMap.1 hb
          exact hth x (h6 x hx) b hb
        · rcases List.mem_cons.1 hb with rfl | hb
          · omega
          · obtain ⟨x, hx, hb⟩ := List.mem_flatMap.1 hb
            have hb' : b = x := by simpa using hb
            have := h8 x hx
            omega
  · exact h9 b hb

theorem bytes_append {l m : List Int} (h : Bytes l) (k : Bytes m) : Bytes (l ++ m) := fun b hb => (List.mem_append.1 hb).elim (h b) (k b)

theorem bytes_set {l : List Int} (h : Bytes l) (j : Nat) {v : Int} (hv : 0 ≤ v ∧ v ≤ 255) : Bytes (l.set j v) := fun b hb => by
  rcases List.mem_or_eq_of_mem_set hb with hb | rfl
  · exact h b hb
  · exact hv

theorem IsB.of_own {w : World} {base : Nat} {e : TypeId} {a : Option Addr} {c : Nat} {l : List Int} (h : w.ownsRow base e 1 (.slice a l.length c) l.length (numsC .u8 l)) (hb : Bytes l) : IsB w a l := by
  rw [numsC_eq] at h
  exact ⟨IsNums.of_own h, hb⟩

theorem owns_len {w : World} {base n : Nat} {e : TypeId} {v : Value} {k : IntKind} {l : List Int} (h : w.ownsRow base e 1 v n (numsC k l)) : n = l.length := by
  have := h.1
  rw [numsC_len] at this
  omega

theorem owns_some {w : World} {base n : Nat} {e : TypeId} {sz : Nat} {a : Option Addr} {c : Nat} {xs : List Value} (h : w.ownsRow base e sz (.slice a n c) n xs) (hn : 0 < n) : ∃ g, a = some ⟨g, 0, none⟩ ∧ base ≤ g := by
  rcases h.2 with ⟨_, h0⟩ | ⟨g, cap2, cur, e1, hb, _⟩
  · omega
  · injection e1 with e1
    exact ⟨g, e1, hb⟩

theorem row_set {w : World} {base g n c j : Nat} {e : TypeId} {k : IntKind} {l : List Int} (h : w.ownsRow base e 1 (.slice (some ⟨g, 0, none⟩) n c) n (numsC k l)) (hj : j < n) (v : Int) : (w.setCell ⟨g, j, none⟩ (.int k v)).ownsRow base e 1 (.slice (some ⟨g, 0, none⟩) n c) n (numsC k (l.set j v)) := by
  have e1 : numsC k (l.set j v) = (numsC k l).set j (.int k v) := by simp [numsC, List.map_set]
  rw [e1]
  refine ⟨by rw [List.length_set]; exact h.1, ?_⟩
  rcases h.2 with ⟨h1, _⟩ | ⟨g', cap, cur, h1, h4, h5, h6, h7, h8, h9⟩
  · cases h1
  · injection h1 with h1 h2 h3
    injection h1 with h1
    injection h1 with h1
    subst h1
    subst h3
    have hb : Blk e w g cur := h5
    refine .inr ⟨g, c, cur.setIfInBounds j (.int k v), rfl, h4, hb.set j _, h6, h7, by simpa using h8, ?_⟩
    rw [Array.toList_setIfInBounds, List.take_set, h9]

section
variable (a : Option Addr) (cap : Nat) (L : List Int) (w : World) (hb : IsB w a L) (hc : L.length ≤ cap ∧ cap ≤ maxLen) (hL : L.length ≤ 100000) (n : Nat) (hn : L.length = n)
include hb hc hL hn
theorem get_err_any (pl : Nat) (er : Int) (hg : getS L = .error (pl, er)) : Calls Try.prog 10 #[.slice a n cap] w fun r w' => r = .returned (.tuple #[.agg #[.int .i64 0, .int .i64 0, .int .i64 0, .int .i64 0, .int .i64 0, .int .i64 0, .slice none 0 0, .slice none 0 0, .slice none 0 0, .slice none 0 0], .int .i64 pl, .int .i64 er]) ∧ Hid (w.grownBy w' none) := by
  subst hn
  refine (got_any a cap L w hb hc.1 hc.2 hL).mono ?_
  rintro r u ⟨g, ⟨s, fv, dv, av, pv, hr, E, O⟩ | ⟨pl', er', rfl, he, E⟩⟩
  · have e : Except.ok s = Except.error (pl, er) := E.out.symm.trans hg
    cases e
  · have e : Except.error (pl', er') = (Except.error (pl, er) : Except (Nat × Int) Scr) := E.out.symm.trans hg
    cases e
    exact ⟨rfl, g⟩

theorem get_ok_any (co ct cr ck cm cw : Int) (f d p : List Int) (A : List (List (List Op3))) (hg : getS L = .ok ⟨⟨co, ct, cr, ck, cm, cw⟩, f, d, A, p⟩) : Calls Try.prog 10 #[.slice a n cap] w fun r w' => ∃ fa fc da dc aa ac pa pc, r = .returned (.tuple #[.agg #[.int .i64 co, .int .i64 ct, .int .i64 cr, .int .i64 ck, .int .i64 cm, .int .i64 cw, .slice fa f.length fc, .slice da d.length dc, .slice aa A.length ac, .slice pa p.length pc], .int .i64 (-1), .int .i64 0]) ∧ Hid (w.grownBy w' none) ∧ Hid (OwnScr w.heap.size w' ⟨⟨co, ct, cr, ck, cm, cw⟩, f, d, A, p⟩ (.slice fa f.length fc) (.slice da d.length dc) (.slice aa A.length ac) (.slice pa p.length pc)) := by
  subst hn
  refine (got_any a cap L w hb hc.1 hc.2 hL).mono ?_
  rintro r u ⟨g, ⟨s, fv, dv, av, pv, hr, E, O⟩ | ⟨pl', er', rfl, he, E⟩⟩
  · have e : Except.ok s = (Except.ok ⟨⟨co, ct, cr, ck, cm, cw⟩, f, d, A, p⟩ : Except (Nat × Int) Scr) := E.out.symm.trans hg
    cases e
    obtain ⟨fa, fc, da, dc, aa, ac, pa, pc, rfl, rfl, rfl, rfl⟩ := cells_of O.out
    exact ⟨fa, fc, da, dc, aa, ac, pa, pc, hr, g, O⟩
  · have e : Except.error (pl', er') = (Except.ok ⟨⟨co, ct, cr, ck, cm, cw⟩, f, d, A, p⟩ : Except (Nat × Int) Scr) := E.out.symm.trans hg
    cases e
end

theorem get_err_own {a : Option Addr} {n c base : Nat} {e : TypeId} {L : List Int} {w : World} (h : w.ownsRow base e 1 (.slice a n c) n (numsC .u8 L)) (hb : Bytes L) (hL : n ≤ 100000) (pl : Nat) (pi er : Int) (hp : pi = pl) (hg : getS L = .error (pl, er)) : Calls Try.prog 10 #[.slice a n c] w fun r w' => r = .returned (.tuple #[.agg #[.int .i64 0, .int .i64 0, .int .i64 0, .int .i64 0, .int .i64 0, .int .i64 0, .slice none 0 0, .slice none 0 0, .slice none 0 0, .slice none 0 0], .int .i64 pi, .int .i64 er]) ∧ Hid (w.grownBy w' none) := by
  obtain rfl := owns_len h
  subst hp
  exact get_err_any a c L w (IsB.of_own h hb) (row_cap h) hL _ rfl pl er hg

theorem get_ok_own {a : Option Addr} {n c base : Nat} {e : TypeId} {L : List Int} {w : World} (h : w.ownsRow base e 1 (.slice a n c) n (numsC .u8 L)) (hb : Bytes L) (hL : n ≤ 100000) (co ct cr ck cm cw : Int) (f d p : List Int) (A : List (List (List Op3))) (hg : getS L = .ok ⟨⟨co, ct, cr, ck, cm, cw⟩, f, d, A, p⟩) : Calls Try.prog 10 #[.slice a n c] w fun r w' => ∃ fa fc da dc aa ac pa pc, r = .returned (.tuple #[.agg #[.int .i64 co, .int .i64 ct, .int .i64 cr, .int .i64 ck, .int .i64 cm, .int .i64 cw, .slice fa f.length fc, .slice da d.length dc, .slice aa A.length ac, .slice pa p.length pc], .int .i64 (-1), .int .i64 0]) ∧ Hid (w.grownBy w' none) ∧ Hid (OwnScr w.heap.size w' ⟨⟨co, ct, cr, ck, cm, cw⟩, f, d, A, p⟩ (.slice fa f.length fc) (.slice da d.length dc) (.slice aa A.length ac) (.slice pa p.length pc)) := by
  obtain rfl := owns_len h
  exact get_ok_any a c L w (IsB.of_own h hb) (row_cap h) hL _ rfl co ct cr ck cm cw f d p A hg

theorem own_src {w : World} {base n : Nat} {e : TypeId} {a : Option Addr} {c : Nat} {k : IntKind} {l : List Int} (h : w.ownsRow base e 1 (.slice a n c) n (numsC k l)) : (n = 0 ∧ numsC k l = []) ∨ ∃ ad, a = some ad ∧ ∀ j u, (numsC k l)[j]? = some u → w.cell? (ad.add j) = some u := by
  obtain rfl := owns_len h
  rw [numsC_eq] at h
  exact NumsAt.src (IsNums.of_own h)

/-- What stands behind a script without picks are its picks. -/
theorem get_more {co ct cr ck cm cw : Int} {f d : List Int} {A : List (List (List Op3))} (h : Scr.ok ⟨⟨co, ct, cr, ck, cm, cw⟩, f, d, A, []⟩ = true) {M : List Int} (hM : Bytes M) : getS (putS ⟨⟨co, ct, cr, ck, cm, cw⟩, f, d, A, []⟩ ++ M) = .ok ⟨⟨co, ct, cr, ck, cm, cw⟩, f, d, A, M⟩ := by
  have e : putS ⟨⟨co, ct, cr, ck, cm, cw⟩, f, d, A, []⟩ ++ M = putS ⟨⟨co, ct, cr, ck, cm, cw⟩, f, d, A, M⟩ := by simp [putS, headB]
  rw [e]
  exact get_put (ok_picks h hM)

/-- Rows stand while a box is stored. -/
theorem OwnScr.setBox {base b : Nat} {w : World} {s : Scr} {fv dv av pv : Value} {cs : Array Value} (h : OwnScr base w s fv dv av pv) (hb : Blk 30 w b cs) (j : Nat) (u : Value) : OwnScr base (w.setCell ⟨b, j, none⟩ u) s fv dv av pv := h.keep (KeepT.set hb j u) (by decide)

theorem IsB.take {w : World} {a : Option Addr} {L : List Int} (h : IsB w a L) {q : Nat} (hq : q ≤ L.length) : IsB w a (L.take q) := by
  have hl := take_len (L := L) hq
  refine ⟨?_, fun b hb => h.2 b (List.mem_of_mem_take hb)⟩
  rw [hl]
  rcases h.1 with h0 | ⟨b, off, e, hb, hc⟩
  · exact .inl (by omega)
  · exact .inr ⟨b, off, e, hb, fun i hi => by rw [hc i (by omega), at0_take hi]⟩

/-- What is cut ahead of a script's end is short. -/
theorem get_prefix_own {a : Option Addr} {n c base : Nat} {e : TypeId} {co ct cr ck cm cw : Int} {f d : List Int} {A : List (List (List Op3))} {w : World} (h : w.ownsRow base e 1 (.slice a n c) n (numsC .u8 (putS ⟨⟨co, ct, cr, ck, cm, cw⟩, f, d, A, []⟩))) (hok : Scr.ok ⟨⟨co, ct, cr, ck, cm, cw⟩, f, d, A, []⟩ = true) (hn : n ≤ 100000) (q : Nat) (hq : q < n) : Calls Try.prog 10 #[.slice a q c] w fun r w' => r = .returned (.tuple #[.agg #[.int .i64 0, .int .i64 0, .int .i64 0, .int .i64 0, .int .i64 0, .int .i64 0, .slice none 0 0, .slice none 0 0, .slice none 0 0, .slice none 0 0], .int .i64 q, .int .i64 9]) ∧ Hid (w.grownBy w' none) := by
  have hl := owns_len h
  have hh : (putS ⟨⟨co, ct, cr, ck, cm, cw⟩, f, d, A, []⟩).length = (headB ⟨⟨co, ct, cr, ck, cm, cw⟩, f, d, A, []⟩).length := by simp [putS]
  have hc := row_cap h
  rw [hl] at h
  have hb := IsB.of_own h (bytes_put hok)
  have ht := take_len (L := putS ⟨⟨co, ct, cr, ck, cm, cw⟩, f, d, A, []⟩) (n := q) (by omega)
  exact get_err_any a c _ w (hb.take (by omega)) (by rw [ht]; omega) (by omega) q ht q 9 (get_cut hok (by omega))

/-- What is known of a script that may be. -/
theorem ok_bounds {s : Scr} (h : s.ok = true) : s.first.length ≤ 8 ∧ s.all.length ≤ 6 ∧ s.draws.length ≤ 255 ∧ Bytes s.draws ∧ s.picks.length ≤ (putS s).length := by
  unfold Scr.ok at h
  simp only [Bool.and_eq_true, decide_eq_true_eq, List.all_eq_true] at h
  obtain ⟨⟨⟨⟨⟨⟨⟨⟨h1, h2⟩, h3⟩, h4⟩, h5⟩, h6⟩, h7⟩, h8⟩, h9⟩ := h
  obtain ⟨a1, a2, a3, a4, a5, a6⟩ := Cfg.ok_iff.1 h1
  exact ⟨by omega, by omega, h7, h8, by simp [putS]⟩

theorem scr_cfg {s : Scr} (h : s.ok = true) : s.c.ok = true := by
  unfold Scr.ok at h
  simp only [Bool.and_eq_true] at h
  exact h.1.1.1.1.1.1.1.1

theorem put_cons (co ct cr ck cm cw : Int) (f d p : List Int) (A : List (List (List Op3))) (M : List Int) : ∃ R, putS ⟨⟨co, ct, cr, ck, cm, cw⟩, f, d, A, p⟩ ++ M = co :: ct :: cr / 256 :: cr % 256 :: ck :: cm :: cw :: R :=
  ⟨f.flatMap (fun x => [low x]) ++ (A.flatMap thB ++ ((d.length : Int) :: d.flatMap fun x => [x])) ++ p ++ M, by simp [putS, headB, cfB]⟩

section
variable (co ct cr ck cm cw : Int) (f d p : List Int) (A : List (List (List Op3))) (fa : Option Addr) (fc : Nat) (da : Option Addr) (dc : Nat) (aa : Option Addr) (ac : Nat) (pa : Option Addr) (pc : Nat) (w : World) (hs : ScrAt w ⟨⟨co, ct, cr, ck, cm, cw⟩, f, d, A, p⟩ (.slice fa f.length fc) (.slice da d.length dc) (.slice aa A.length ac) (.slice pa p.length pc)) (hd : Bytes d) (h1 : f.length ≤ 100000) (h2 : A.length ≤ 100000) (h3 : p.length ≤ 100000) (h4 : d.length ≤ 100000)
include hs hd h1 h2 h3 h4
omit hd h1 h2 h3 h4 in
theorem great_lit : Calls Try.prog 13 #[.agg #[.int .i64 co, .int .i64 ct, .int .i64 cr, .int .i64 ck, .int .i64 cm, .int .i64 cw, .slice fa f.length fc, .slice da d.length dc, .slice aa A.length ac, .slice pa p.length pc]] w fun r w' => r = .returned (.bool (!fits ⟨⟨co, ct, cr, ck, cm, cw⟩, f, d, A, p⟩)) ∧ Hid (w.grownBy w' none) := great_any ⟨⟨co, ct, cr, ck, cm, cw⟩, f, d, A, p⟩ _ _ _ _ w hs

theorem ok_lit : Calls Try.prog 17 #[.agg #[.int .i64 co, .int .i64 ct, .int .i64 cr, .int .i64 ck, .int .i64 cm, .int .i64 cw, .slice fa f.length fc, .slice da d.length dc, .slice aa A.length ac, .slice pa p.length pc]] w fun r w' => r = .returned (.bool (Scr.ok ⟨⟨co, ct, cr, ck, cm, cw⟩, f, d, A, p⟩)) ∧ Hid (w.grownBy w' none) := ok_script ⟨⟨co, ct, cr, ck, cm, cw⟩, f, d, A, p⟩ _ _ _ _ w hs hd h1 h2 h3 h4

omit hs hd h1 h2 h3 h4 in
theorem of_lit : Calls Try.prog 16 #[.agg #[.int .i64 co, .int .i64 ct, .int .i64 cr, .int .i64 ck, .int .i64 cm, .int .i64 cw, .slice fa f.length fc, .slice da d.length dc, .slice aa A.length ac, .slice pa p.length pc]] w fun r w' => r = .returned (.agg #[.int .i64 co, .int .i64 ct, .int .i64 cr, .int .i64 ck, .int .i64 cm, .int .i64 cw, .slice fa f.length fc, .slice da d.length dc, .slice aa A.length ac, .slice pa p.length pc]) ∧ Hid (w.grownBy w' none) := of_any ⟨co, ct, cr, ck, cm, cw⟩ fa f.length fc da d.length dc aa A.length ac pa p.length pc w

omit hd h4 in
theorem same_lit (ga : Option Addr) (gc : Nat) (ea : Option Addr) (ec : Nat) (ba : Option Addr) (bc : Nat) (qa : Option Addr) (qc : Nat) (ht : ScrAt w ⟨⟨co, ct, cr, ck, cm, cw⟩, f, d, A, p⟩ (.slice ga f.length gc) (.slice ea d.length ec) (.slice ba A.length bc) (.slice qa p.length qc)) (h5 : ∀ t ∈ A, t.length ≤ 100000) (h6 : ∀ t ∈ A, ∀ x ∈ t, x.length ≤ 100000) : Calls Try.prog 12 #[.agg #[.int .i64 co, .int .i64 ct, .int .i64 cr, .int .i64 ck, .int .i64 cm, .int .i64 cw, .slice fa f.length fc, .slice da d.length dc, .slice aa A.length ac, .slice pa p.length pc], .agg #[.int .i64 co, .int .i64 ct, .int .i64 cr, .int .i64 ck, .int .i64 cm, .int .i64 cw, .slice ga f.length gc, .slice ea d.length ec, .slice ba A.length bc, .slice qa p.length qc]] w fun r w' => r = .returned (.bool true) ∧ Hid (w.grownBy w' none) :=
  same_script ⟨⟨co, ct, cr, ck, cm, cw⟩, f, d, A, p⟩ _ _ _ _ _ _ _ _ w hs ht h1 h2 h3 h5 (fun t ht x hx => Nat.le_trans (h6 t ht x hx) (by decide))

theorem put_ok_any (hok : Scr.ok ⟨⟨co, ct, cr, ck, cm, cw⟩, f, d, A, p⟩ = true) : Calls Try.prog 15 #[.agg #[.int .i64 co, .int .i64 ct, .int .i64 cr, .int .i64 ck, .int .i64 cm, .int .i64 cw, .slice fa f.length fc, .slice da d.length dc, .slice aa A.length ac, .slice pa p.length pc]] w fun r w' => ∃ b m c, r = .returned (.tuple #[.slice b m c, .int .i64 0]) ∧ Hid (w.grownBy w' none) ∧ m ≤ 2000 + p.length ∧ Hid (w'.ownsRow w.heap.size 5 1 (.slice b m c) m (numsC .u8 (putS ⟨⟨co, ct, cr, ck, cm, cw⟩, f, d, A, p⟩))) := by
  refine (put_script ⟨⟨co, ct, cr, ck, cm, cw⟩, f, d, A, p⟩ _ _ _ _ w hs hd h1 h2 h3 h4).mono ?_
  rintro r u ⟨g, ⟨_, b, m, c, rfl, hm, O⟩ | ⟨h0, _⟩⟩
  · exact ⟨b, m, c, rfl, g, hm, O⟩
  · rw [hok] at h0
    cases h0

theorem put_err_any (hok : Scr.ok ⟨⟨co, ct, cr, ck, cm, cw⟩, f, d, A, p⟩ = false) : Calls Try.prog 15 #[.agg #[.int .i64 co, .int .i64 ct, .int .i64 cr, .int .i64 ck, .int .i64 cm, .int .i64 cw, .slice fa f.length fc, .slice da d.length dc, .slice aa A.length ac, .slice pa p.length pc]] w fun r w' => r = .returned (.tuple #[.slice none 0 0, .int .i64 1]) ∧ Hid (w.grownBy w' none) := by
  refine (put_script ⟨⟨co, ct, cr, ck, cm, cw⟩, f, d, A, p⟩ _ _ _ _ w hs hd h1 h2 h3 h4).mono ?_
  rintro r u ⟨g, ⟨h0, _⟩ | ⟨_, rfl⟩⟩
  · rw [hok] at h0
    cases h0
  · exact ⟨rfl, g⟩
end
end Go.Proofs.Ytinmhefkmjlelaa.sc
