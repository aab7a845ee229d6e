/- Whether a trace is right: may an event come? -/
import Derived.Test.YtdohepenmejcaaaHr
import Derived.IntWalk
namespace Go.Proofs.Ytdohepenmejcaaa.hs
open Go Go.RowKit Go.Proofs.Ytdohepenmejcaaa.base Go.Maps
set_option linter.unusedVariables false
set_option maxRecDepth 100000

set_option maxHeartbeats 1000000 in
theorem may_any (om tm n1 n2 : Nat) (f : Int → Option Value) (g : Int × Int → Option Value) (e : Ev) (o : Option Ev) (c : Int) (w : World) (he : Ev.Wf e) (hf : MapG Try.prog 3 (Value.int .i64) w om n1 f) (hg : MapG Try.prog 105 two w tm n2 g) (ho : f e.th = opnV o) (hc : (g (e.th, e.tx)).getD (.int .i64 0) = .int .i64 c) :
    Calls Try.prog 37 #[.agg #[.map (some om), .map (some tm)], .agg #[.int .i64 e.k, .int .i64 e.th, .int .i64 e.tx, .int .i64 e.at_, .int .i64 e.ob, .int .i64 e.va, .int .i64 e.re]] w fun r w' => r = .returned (.bool (mayB o c e)) ∧ Hid (w.grownBy w' none) := by
  obtain ⟨k, th, tx, at_, ob, va, re⟩ := e
  have M1 := Lib.hid hf
  have M2 := Lib.hid hg
  have E := Lib.hid he
  have C := Lib.hid hc
  obtain ⟨kl, hkl⟩ := keyTxn (x := (th, tx)) he.th he.tx
  have KL := Lib.hid hkl
  have O := Lib.hid ho
  clear hf hg he hc hkl ho
  dsimp only at *
  cases o with
  | none =>
    by_cases h1 : k = 1
    · subst h1
      go_enter Try.func37, Try.ntmps37
      go_wp2_with (first | (at_lookup; refine wpList_look_mapG rfl _ _ 81 rfl 3 58 kInt Try.underlying81 _ (zeroEv _) (Value.int .i64) om n1 f rfl (M1.out.grown (show World.grownBy w _ none from (by repeat (first | exact gb_refl _ _ | refine gb_drewN ?_ _ | refine gb_drew ?_ | refine gb_alloc ?_ _))) (by simp)) th _ rfl (keyInt E.out.th) (.agg #[.int .i64 0, .int .i64 0, .int .i64 0, .int .i64 0, .int .i64 0, .int .i64 0, .int .i64 0]) false (by rw [O.out]; rfl) (by rw [O.out]; rfl) ?_) | go_in)
      have hget : ∀ n, (Instr.lookup 82 (.map (some tm)) (.agg #[.int .i64 th, .int .i64 tx]) false).run Try.prog ((((w.alloc (.cells #[.map (some om), .map (some tm)] 84)).alloc (.cells #[.int .i64 1, .int .i64 th, .int .i64 tx, .int .i64 at_, .int .i64 ob, .int .i64 va, .int .i64 re] 58)).alloc (.cells #[.int .i64 0, .int .i64 0, .int .i64 0, .int .i64 0, .int .i64 0, .int .i64 0, .int .i64 0] 58)).drewN n) = .ok (.int .i64 c) ((((w.alloc (.cells #[.map (some om), .map (some tm)] 84)).alloc (.cells #[.int .i64 1, .int .i64 th, .int .i64 tx, .int .i64 at_, .int .i64 ob, .int .i64 va, .int .i64 re] 58)).alloc (.cells #[.int .i64 0, .int .i64 0, .int .i64 0, .int .i64 0, .int .i64 0, .int .i64 0, .int .i64 0] 58)).drewN n) := fun n => by
        have h := (M2.out.grown (show World.grownBy w ((((w.alloc (.cells #[.map (some om), .map (some tm)] 84)).alloc (.cells #[.int .i64 1, .int .i64 th, .int .i64 tx, .int .i64 at_, .int .i64 ob, .int .i64 va, .int .i64 re] 58)).alloc (.cells #[.int .i64 0, .int .i64 0, .int .i64 0, .int .i64 0, .int .i64 0, .int .i64 0, .int .i64 0] 58)).drewN n) none from (by repeat (first | exact gb_refl _ _ | refine gb_drewN ?_ _ | refine gb_drew ?_ | refine gb_alloc ?_ _))) (by simp)).get kTxn Try.underlying82 (zeroInt _) KL.out
        rw [C.out] at h
        exact h
      go_quiet (fail)
      go_wp2
      go_ret
      refine ⟨?_, (by repeat (first | exact gb_refl _ _ | refine gb_drewN ?_ _ | refine gb_drew ?_ | refine gb_alloc ?_ _))⟩
      simp [mayB, IntWalk.i64_left]
    have f1 : (k == 1) = false := by simp [h1]
    clear h1
    by_cases h7 : k = 7
    · subst h7
      go_enter Try.func37, Try.ntmps37
      go_wp2_with (first | (at_lookup; refine wpList_look_mapG rfl _ _ 81 rfl 3 58 kInt Try.underlying81 _ (zeroEv _) (Value.int .i64) om n1 f rfl (M1.out.grown (show World.grownBy w _ none from (by repeat (first | exact gb_refl _ _ | refine gb_drewN ?_ _ | refine gb_drew ?_ | refine gb_alloc ?_ _))) (by simp)) th _ rfl (keyInt E.out.th) (.agg #[.int .i64 0, .int .i64 0, .int .i64 0, .int .i64 0, .int .i64 0, .int .i64 0, .int .i64 0]) false (by rw [O.out]; rfl) (by rw [O.out]; rfl) ?_) | go_in)
      go_ret
      refine ⟨?_, (by repeat (first | exact gb_refl _ _ | refine gb_drewN ?_ _ | refine gb_drew ?_ | refine gb_alloc ?_ _))⟩
      simp [mayB]
    have f7 : (k == 7) = false := by simp [h7]
    by_cases h2 : k = 2
    · subst h2
      go_enter Try.func37, Try.ntmps37
      go_wp2_with (first | (at_lookup; refine wpList_look_mapG rfl _ _ 81 rfl 3 58 kInt Try.underlying81 _ (zeroEv _) (Value.int .i64) om n1 f rfl (M1.out.grown (show World.grownBy w _ none from (by repeat (first | exact gb_refl _ _ | refine gb_drewN ?_ _ | refine gb_drew ?_ | refine gb_alloc ?_ _))) (by simp)) th _ rfl (keyInt E.out.th) (.agg #[.int .i64 0, .int .i64 0, .int .i64 0, .int .i64 0, .int .i64 0, .int .i64 0, .int .i64 0]) false (by rw [O.out]; rfl) (by rw [O.out]; rfl) ?_) | go_in)
      go_ret
      refine ⟨?_, (by repeat (first | exact gb_refl _ _ | refine gb_drewN ?_ _ | refine gb_drew ?_ | refine gb_alloc ?_ _))⟩
      simp [mayB]
    have f2 : (k == 2) = false := by simp [h2]
    by_cases h3 : k = 3
    · subst h3
      go_enter Try.func37, Try.ntmps37
      go_wp2_with (first | (at_lookup; refine wpList_look_mapG rfl _ _ 81 rfl 3 58 kInt Try.underlying81 _ (zeroEv _) (Value.int .i64) om n1 f rfl (M1.out.grown (show World.grownBy w _ none from (by repeat (first | exact gb_refl _ _ | refine gb_drewN ?_ _ | refine gb_drew ?_ | refine gb_alloc ?_ _))) (by simp)) th _ rfl (keyInt E.out.th) (.agg #[.int .i64 0, .int .i64 0, .int .i64 0, .int .i64 0, .int .i64 0, .int .i64 0, .int .i64 0]) false (by rw [O.out]; rfl) (by rw [O.out]; rfl) ?_) | go_in)
      go_ret
      refine ⟨?_, (by repeat (first | exact gb_refl _ _ | refine gb_drewN ?_ _ | refine gb_drew ?_ | refine gb_alloc ?_ _))⟩
      simp [mayB]
    have f3 : (k == 3) = false := by simp [h3]
    by_cases h4 : k = 4
    · subst h4
      go_enter Try.func37, Try.ntmps37
      go_wp2_with (first | (at_lookup; refine wpList_look_mapG rfl _ _ 81 rfl 3 58 kInt Try.underlying81 _ (zeroEv _) (Value.int .i64) om n1 f rfl (M1.out.grown (show World.grownBy w _ none from (by repeat (first | exact gb_refl _ _ | refine gb_drewN ?_ _ | refine gb_drew ?_ | refine gb_alloc ?_ _))) (by simp)) th _ rfl (keyInt E.out.th) (.agg #[.int .i64 0, .int .i64 0, .int .i64 0, .int .i64 0, .int .i64 0, .int .i64 0, .int .i64 0]) false (by rw [O.out]; rfl) (by rw [O.out]; rfl) ?_) | go_in)
      go_ret
      refine ⟨?_, (by repeat (first | exact gb_refl _ _ | refine gb_drewN ?_ _ | refine gb_drew ?_ | refine gb_alloc ?_ _))⟩
      simp [mayB]
    have f4 : (k == 4) = false := by simp [h4]
    by_cases h5 : k = 5
    · subst h5
      go_enter Try.func37, Try.ntmps37
      go_wp2_with (first | (at_lookup; refine wpList_look_mapG rfl _ _ 81 rfl 3 58 kInt Try.underlying81 _ (zeroEv _) (Value.int .i64) om n1 f rfl (M1.out.grown (show World.grownBy w _ none from (by repeat (first | exact gb_refl _ _ | refine gb_drewN ?_ _ | refine gb_drew ?_ | refine gb_alloc ?_ _))) (by simp)) th _ rfl (keyInt E.out.th) (.agg #[.int .i64 0, .int .i64 0, .int .i64 0, .int .i64 0, .int .i64 0, .int .i64 0, .int .i64 0]) false (by rw [O.out]; rfl) (by rw [O.out]; rfl) ?_) | go_in)
      go_ret
      refine ⟨?_, (by repeat (first | exact gb_refl _ _ | refine gb_drewN ?_ _ | refine gb_drew ?_ | refine gb_alloc ?_ _))⟩
      simp [mayB]
    have f5 : (k == 5) = false := by simp [h5]
    by_cases h6 : k = 6
    · subst h6
      go_enter Try.func37, Try.ntmps37
      go_wp2_with (first | (at_lookup; refine wpList_look_mapG rfl _ _ 81 rfl 3 58 kInt Try.underlying81 _ (zeroEv _) (Value.int .i64) om n1 f rfl (M1.out.grown (show World.grownBy w _ none from (by repeat (first | exact gb_refl _ _ | refine gb_drewN ?_ _ | refine gb_drew ?_ | refine gb_alloc ?_ _))) (by simp)) th _ rfl (keyInt E.out.th) (.agg #[.int .i64 0, .int .i64 0, .int .i64 0, .int .i64 0, .int .i64 0, .int .i64 0, .int .i64 0]) false (by rw [O.out]; rfl) (by rw [O.out]; rfl) ?_) | go_in)
      go_ret
      refine ⟨?_, (by repeat (first | exact gb_refl _ _ | refine gb_drewN ?_ _ | refine gb_drew ?_ | refine gb_alloc ?_ _))⟩
      simp [mayB]
    have f6 : (k == 6) = false := by simp [h6]
    go_enter Try.func37, Try.ntmps37
    go_wp2_with (first | (at_lookup; refine wpList_look_mapG rfl _ _ 81 rfl 3 58 kInt Try.underlying81 _ (zeroEv _) (Value.int .i64) om n1 f rfl (M1.out.grown (show World.grownBy w _ none from (by repeat (first | exact gb_refl _ _ | refine gb_drewN ?_ _ | refine gb_drew ?_ | refine gb_alloc ?_ _))) (by simp)) th _ rfl (keyInt E.out.th) (.agg #[.int .i64 0, .int .i64 0, .int .i64 0, .int .i64 0, .int .i64 0, .int .i64 0, .int .i64 0]) false (by rw [O.out]; rfl) (by rw [O.out]; rfl) ?_) | go_in)
    go_ret
    refine ⟨?_, (by repeat (first | exact gb_refl _ _ | refine gb_drewN ?_ _ | refine gb_drew ?_ | refine gb_alloc ?_ _))⟩
    have hm : mayB none c ⟨k, th, tx, at_, ob, va, re⟩ = false := by simp only [mayB, f1, f7, Bool.false_and, Bool.or_self]
    rw [hm]
    rfl
  | some b =>
    by_cases h1 : k = 1
    · subst h1
      go_enter Try.func37, Try.ntmps37
      go_wp2_with (first | (at_lookup; refine wpList_look_mapG rfl _ _ 81 rfl 3 58 kInt Try.underlying81 _ (zeroEv _) (Value.int .i64) om n1 f rfl (M1.out.grown (show World.grownBy w _ none from (by repeat (first | exact gb_refl _ _ | refine gb_drewN ?_ _ | refine gb_drew ?_ | refine gb_alloc ?_ _))) (by simp)) th _ rfl (keyInt E.out.th) (.agg #[.int .i64 b.k, .int .i64 b.th, .int .i64 b.tx, .int .i64 b.at_, .int .i64 b.ob, .int .i64 b.va, .int .i64 b.re]) true (by rw [O.out]; rfl) (by rw [O.out]; rfl) ?_) | go_in)
      go_quiet (fail)
      go_wp2
      go_ret
      refine ⟨?_, (by repeat (first | exact gb_refl _ _ | refine gb_drewN ?_ _ | refine gb_drew ?_ | refine gb_alloc ?_ _))⟩
      simp [mayB]
    have f1 : (k == 1) = false := by simp [h1]
    clear h1
    by_cases h7 : k = 7
    · subst h7
      go_enter Try.func37, Try.ntmps37
      go_wp2_with (first | (at_lookup; refine wpList_look_mapG rfl _ _ 81 rfl 3 58 kInt Try.underlying81 _ (zeroEv _) (Value.int .i64) om n1 f rfl (M1.out.grown (show World.grownBy w _ none from (by repeat (first | exact gb_refl _ _ | refine gb_drewN ?_ _ | refine gb_drew ?_ | refine gb_alloc ?_ _))) (by simp)) th _ rfl (keyInt E.out.th) (.agg #[.int .i64 b.k, .int .i64 b.th, .int .i64 b.tx, .int .i64 b.at_, .int .i64 b.ob, .int .i64 b.va, .int .i64 b.re]) true (by rw [O.out]; rfl) (by rw [O.out]; rfl) ?_) | go_in)
      go_ret
      refine ⟨?_, (by repeat (first | exact gb_refl _ _ | refine gb_drewN ?_ _ | refine gb_drew ?_ | refine gb_alloc ?_ _))⟩
      simp [mayB]
    have f7 : (k == 7) = false := by simp [h7]
    by_cases h2 : k = 2
    · subst h2
      go_enter Try.func37, Try.ntmps37
      go_wp2_with (first | (at_lookup; refine wpList_look_mapG rfl _ _ 81 rfl 3 58 kInt Try.underlying81 _ (zeroEv _) (Value.int .i64) om n1 f rfl (M1.out.grown (show World.grownBy w _ none from (by repeat (first | exact gb_refl _ _ | refine gb_drewN ?_ _ | refine gb_drew ?_ | refine gb_alloc ?_ _))) (by simp)) th _ rfl (keyInt E.out.th) (.agg #[.int .i64 b.k, .int .i64 b.th, .int .i64 b.tx, .int .i64 b.at_, .int .i64 b.ob, .int .i64 b.va, .int .i64 b.re]) true (by rw [O.out]; rfl) (by rw [O.out]; rfl) ?_) | go_in)
      all_goals go_ret
      all_goals refine ⟨?_, (by repeat (first | exact gb_refl _ _ | refine gb_drewN ?_ _ | refine gb_drew ?_ | refine gb_alloc ?_ _))⟩
      all_goals simp_all [mayB]
    have f2 : (k == 2) = false := by simp [h2]
    by_cases h3 : k = 3
    · subst h3
      go_enter Try.func37, Try.ntmps37
      go_wp2_with (first | (at_lookup; refine wpList_look_mapG rfl _ _ 81 rfl 3 58 kInt Try.underlying81 _ (zeroEv _) (Value.int .i64) om n1 f rfl (M1.out.grown (show World.grownBy w _ none from (by repeat (first | exact gb_refl _ _ | refine gb_drewN ?_ _ | refine gb_drew ?_ | refine gb_alloc ?_ _))) (by simp)) th _ rfl (keyInt E.out.th) (.agg #[.int .i64 b.k, .int .i64 b.th, .int .i64 b.tx, .int .i64 b.at_, .int .i64 b.ob, .int .i64 b.va, .int .i64 b.re]) true (by rw [O.out]; rfl) (by rw [O.out]; rfl) ?_) | go_in)
      all_goals go_ret
      all_goals refine ⟨?_, (by repeat (first | exact gb_refl _ _ | refine gb_drewN ?_ _ | refine gb_drew ?_ | refine gb_alloc ?_ _))⟩
      all_goals simp_all [mayB]
    have f3 : (k == 3) = false := by simp [h3]
    by_cases h4 : k = 4
    · subst h4
      go_enter Try.func37, Try.ntmps37
      go_wp2_with (first | (at_lookup; refine wpList_look_mapG rfl _ _ 81 rfl 3 58 kInt Try.underlying81 _ (zeroEv _) (Value.int .i64) om n1 f rfl (M1.out.grown (show World.grownBy w _ none from (by repeat (first | exact gb_refl _ _ | refine gb_drewN ?_ _ | refine gb_drew ?_ | refine gb_alloc ?_ _))) (by simp)) th _ rfl (keyInt E.out.th) (.agg #[.int .i64 b.k, .int .i64 b.th, .int .i64 b.tx, .int .i64 b.at_, .int .i64 b.ob, .int .i64 b.va, .int .i64 b.re]) true (by rw [O.out]; rfl) (by rw [O.out]; rfl) ?_) | go_in)
      all_goals go_ret
      all_goals refine ⟨?_, (by repeat (first | exact gb_refl _ _ | refine gb_drewN ?_ _ | refine gb_drew ?_ | refine gb_alloc ?_ _))⟩
      all_goals simp_all [mayB]
    have f4 : (k == 4) = false := by simp [h4]
    by_cases h5 : k = 5
    · subst h5
      go_enter Try.func37, Try.ntmps37
      go_wp2_with (first | (at_lookup; refine wpList_look_mapG rfl _ _ 81 rfl 3 58 kInt Try.underlying81 _ (zeroEv _) (Value.int .i64) om n1 f rfl (M1.out.grown (show World.grownBy w _ none from (by repeat (first | exact gb_refl _ _ | refine gb_drewN ?_ _ | refine gb_drew ?_ | refine gb_alloc ?_ _))) (by simp)) th _ rfl (keyInt E.out.th) (.agg #[.int .i64 b.k, .int .i64 b.th, .int .i64 b.tx, .int .i64 b.at_, .int .i64 b.ob, .int .i64 b.va, .int .i64 b.re]) true (by rw [O.out]; rfl) (by rw [O.out]; rfl) ?_) | go_in)
      all_goals go_ret
      all_goals refine ⟨?_, (by repeat (first | exact gb_refl _ _ | refine gb_drewN ?_ _ | refine gb_drew ?_ | refine gb_alloc ?_ _))⟩
      all_goals simp_all [mayB]
    have f5 : (k == 5) = false := by simp [h5]
    by_cases h6 : k = 6
    · subst h6
      go_enter Try.func37, Try.ntmps37
      go_wp2_with (first | (at_lookup; refine wpList_look_mapG rfl _ _ 81 rfl 3 58 kInt Try.underlying81 _ (zeroEv _) (Value.int .i64) om n1 f rfl (M1.out.grown (show World.grownBy w _ none from (by repeat (first | exact gb_refl _ _ | refine gb_drewN ?_ _ | refine gb_drew ?_ | refine gb_alloc ?_ _))) (by simp)) th _ rfl (keyInt E.out.th) (.agg #[.int .i64 b.k, .int .i64 b.th, .int .i64 b.tx, .int .i64 b.at_, .int .i64 b.ob, .int .i64 b.va, .int .i64 b.re]) true (by rw [O.out]; rfl) (by rw [O.out]; rfl) ?_) | go_in)
      all_goals go_ret
      all_goals refine ⟨?_, (by repeat (first | exact gb_refl _ _ | refine gb_drewN ?_ _ | refine gb_drew ?_ | refine gb_alloc ?_ _))⟩
      all_goals simp_all [mayB]
    have f6 : (k == 6) = false := by simp [h6]
    go_enter Try.func37, Try.ntmps37
    go_wp2_with (first | (at_lookup; refine wpList_look_mapG rfl _ _ 81 rfl 3 58 kInt Try.underlying81 _ (zeroEv _) (Value.int .i64) om n1 f rfl (M1.out.grown (show World.grownBy w _ none from (by repeat (first | exact gb_refl _ _ | refine gb_drewN ?_ _ | refine gb_drew ?_ | refine gb_alloc ?_ _))) (by simp)) th _ rfl (keyInt E.out.th) (.agg #[.int .i64 b.k, .int .i64 b.th, .int .i64 b.tx, .int .i64 b.at_, .int .i64 b.ob, .int .i64 b.va, .int .i64 b.re]) true (by rw [O.out]; rfl) (by rw [O.out]; rfl) ?_) | go_in)
    go_ret
    refine ⟨?_, (by repeat (first | exact gb_refl _ _ | refine gb_drewN ?_ _ | refine gb_drew ?_ | refine gb_alloc ?_ _))⟩
    have hno : (decide (2 ≤ k) && decide (k ≤ 6)) = false := by
      by_cases g : 2 ≤ k ∧ k ≤ 6
      · simp at f1
        omega
      · simp
        omega
    have hm : mayB (some b) c ⟨k, th, tx, at_, ob, va, re⟩ = false := by simp only [mayB, hno, Bool.false_and]
    rw [hm]
    rfl
end Go.Proofs.Ytdohepenmejcaaa.hs
