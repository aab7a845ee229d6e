/- The contracts of package karma: what is decided about a foe by both priorities and the tries; those of the document's own decision (quarrelref07), too. -/
import Derived.Test.YtnaagcofgnmmlaaRef05
import Derived.Test.YtnaagcofgnmmlaaOwnK
import Derived.Test.YtnaagcofgnmmlaaEqCh
import Derived.Test.YtnaagcofgnmmlaaMidK
import Derived.Deep.CutRange
import Derived.Deep.DeepCutAuto
namespace Go.Proofs.Ytnaagcofgnmmlaa.kar
open Go Go.RowKit Go.Proofs.Ytnaagcofgnmmlaa.base Go.Proofs.Ytnaagcofgnmmlaa.ch
set_option linter.unusedVariables false

/-- The decision at a try T of mine (of priority mp) about a foe of priority pr: its kind, and its steps. -/
def dK (mp pr T : Int) : Int := if pr ≤ mp + T ∨ 8 < T then 1 else 2
def dN (mp pr T n : Int) : Int := if pr ≤ mp + T ∨ 8 < T then 0 else steps 1 n

theorem mT_lo (f i t : Int) (h : -1099511627776 ≤ t) : -1099511627776 ≤ mT f i t ∧ mT f i t ≤ 1000000 := by
  unfold mT cnt
  split <;> omega

theorem steps_one (n : Int) : steps 1 n = 1 := by unfold steps; omega

theorem dOk (mp pr T n : Int) (h : 1 ≤ n) : okB (dK mp pr T) (dN mp pr T n) n = true := by
  unfold dK dN
  by_cases h4 : pr ≤ mp + T ∨ 8 < T
  · simp [h4, okB]
  · simp only [if_neg h4, okB, steps]
    simp
    omega

theorem decide_late (f t y p l mi ms mp mq : Int) (mb : Bool) (i st pr q : Int) (b : Bool) (d n : Int) (lo : -9223372036854775808 ≤ t) (lo2 : -9223372036854775808 ≤ mp + mT f i t) (hi2 : mp + mT f i t ≤ 9223372036854775807) (h : pr ≤ mp + mT f i t ∨ (¬ pr ≤ mp + mT f i t ∧ 8 < mT f i t)) (w : World) :
    Calls Try.prog 58 #[.agg #[], .agg #[.int .i64 f, .int .i64 t, .int .i64 y, .int .i64 p, .int .i64 l], .agg #[.int .i64 mi, .int .i64 ms, .int .i64 mp, .int .i64 mq, .bool mb], .agg #[.int .i64 i, .int .i64 st, .int .i64 pr, .int .i64 q, .bool b], .int .i64 d, .int .i64 n] w fun e w' => e = .returned (.tuple #[.agg #[.int .i64 1, .int .i64 0], .agg #[.int .i64 i, .int .i64 (mT f i t), .int .i64 y, .int .i64 (mP f i p q), .int .i64 (mL f i l)]]) ∧ Hid (w.grownBy w' none) := by
  rcases h with h | ⟨h, h'⟩
  all_goals
    go_enter Try.func58, Try.ntmps58
    go_wp2_with fail
    refine (met_any f t y p l i st pr q b lo _).mono ?_
    rintro e v1 ⟨rfl, g⟩
    have M1 := Lib.hid (((((((Own.start w).skip _).alloc _ _).alloc _ _).alloc _ _).alloc _ _).alloc _ _ |>.grown g.out)
    simp only [size_alloc] at M1
    obtain ⟨e1, e1'⟩ := M1.out.ne' 1 4 rfl rfl (by decide)
    obtain ⟨e2, e2'⟩ := M1.out.ne' 0 4 rfl rfl (by decide)
    obtain ⟨e3, e3'⟩ := M1.out.ne' 0 1 rfl rfl (by decide)
    have s0 := M1.out.cell 4 0 rfl rfl; have s1 := M1.out.cell 4 1 rfl rfl; have s2 := M1.out.cell 4 2 rfl rfl; have s3 := M1.out.cell 4 3 rfl rfl; have s4 := M1.out.cell 4 4 rfl rfl
    have sf0 := M1.out.free 4 0 rfl; have sf1 := M1.out.free 4 1 rfl; have sf2 := M1.out.free 4 2 rfl; have sf3 := M1.out.free 4 3 rfl; have sf4 := M1.out.free 4 4 rfl
    go_upto_region 2 with fail
    generalize w.heap.size + 1 = sb at *
    generalize sb + 1 = mb1 at *
    generalize mb1 + 1 = fb at *
    generalize fb + 1 = kb at *
    generalize kb + 1 = rb at *
    have M2 := Lib.hid (((((M1.out.set 4 0 (.int .i64 i) rfl).set 4 1 (.int .i64 (mT f i t)) rfl).set 4 2 (.int .i64 y) rfl).set 4 3 (.int .i64 (mP f i p q)) rfl).set 4 4 (.int .i64 (mL f i l)) rfl)
    simp only [List.set_cons_succ, List.set_cons_zero] at M2
    generalize ((((((v1).setCell ⟨sb, 0, none⟩ (.int .i64 i)).setCell ⟨sb, 1, none⟩ (.int .i64 (mT f i t))).setCell ⟨sb, 2, none⟩ (.int .i64 y)).setCell ⟨sb, 3, none⟩ (.int .i64 (mP f i p q))).setCell ⟨sb, 4, none⟩ (.int .i64 (mL f i l))) = v2 at *
    clear s0 s1 s2 s3 s4 sf0 sf1 sf2 sf3 sf4
    have s0 := M2.out.cell 4 0 rfl rfl; have s1 := M2.out.cell 4 1 rfl rfl; have s2 := M2.out.cell 4 2 rfl rfl; have s3 := M2.out.cell 4 3 rfl rfl; have s4 := M2.out.cell 4 4 rfl rfl
    have m0 := M2.out.cell 3 0 rfl rfl; have m1 := M2.out.cell 3 1 rfl rfl; have m2 := M2.out.cell 3 2 rfl rfl; have m3 := M2.out.cell 3 3 rfl rfl; have m4 := M2.out.cell 3 4 rfl rfl
    have o0 := M2.out.cell 2 0 rfl rfl; have o1 := M2.out.cell 2 1 rfl rfl; have o2 := M2.out.cell 2 2 rfl rfl; have o3 := M2.out.cell 2 3 rfl rfl; have o4 := M2.out.cell 2 4 rfl rfl
    have k0 := M2.out.cell 1 0 rfl rfl; have k1 := M2.out.cell 1 1 rfl rfl
    have kf0 := M2.out.free 1 0 rfl; have kf1 := M2.out.free 1 1 rfl
    have r0 := M2.out.cell 0 0 rfl rfl; have r1 := M2.out.cell 0 1 rfl rfl; have r2 := M2.out.cell 0 2 rfl rfl; have r3 := M2.out.cell 0 3 rfl rfl; have r4 := M2.out.cell 0 4 rfl rfl
    have rf0 := M2.out.free 0 0 rfl; have rf1 := M2.out.free 0 1 rfl; have rf2 := M2.out.free 0 2 rfl; have rf3 := M2.out.free 0 3 rfl; have rf4 := M2.out.free 0 4 rfl
    go_wp2
    go_region
    go_wp2
    have M3 := Lib.hid (Own.drew ((((((((M2.out.set 1 0 (.int .i64 1) rfl).set 1 1 (.int .i64 0) rfl)).set 0 0 (.int .i64 i) rfl).set 0 1 (.int .i64 (mT f i t)) rfl).set 0 2 (.int .i64 y) rfl).set 0 3 (.int .i64 (mP f i p q)) rfl).set 0 4 (.int .i64 (mL f i l)) rfl))
    simp only [List.set_cons_succ, List.set_cons_zero] at M3
    generalize World.drew (((((((((v2).setCell ⟨kb, 0, none⟩ (.int .i64 1)).setCell ⟨kb, 1, none⟩ (.int .i64 0))).setCell ⟨rb, 0, none⟩ (.int .i64 i)).setCell ⟨rb, 1, none⟩ (.int .i64 (mT f i t))).setCell ⟨rb, 2, none⟩ (.int .i64 y)).setCell ⟨rb, 3, none⟩ (.int .i64 (mP f i p q))).setCell ⟨rb, 4, none⟩ (.int .i64 (mL f i l))) = v3 at *
    clear s0 s1 s2 s3 s4 k0 k1 kf0 kf1 r0 r1 r2 r3 r4 rf0 rf1 rf2 rf3 rf4
    have k0 := M3.out.cell 1 0 rfl rfl; have k1 := M3.out.cell 1 1 rfl rfl
    have r0 := M3.out.cell 0 0 rfl rfl; have r1 := M3.out.cell 0 1 rfl rfl; have r2 := M3.out.cell 0 2 rfl rfl; have r3 := M3.out.cell 0 3 rfl rfl; have r4 := M3.out.cell 0 4 rfl rfl
    refine bodyPost_ret (v := .tuple #[.agg #[.int .i64 1, .int .i64 0], .agg #[.int .i64 i, .int .i64 (mT f i t), .int .i64 y, .int .i64 (mP f i p q), .int .i64 (mL f i l)]]) ?_ rfl ⟨rfl, M3.out.grow⟩
    simp [results, Try.results58, go_sem, *]

theorem decide_early (f t y p l mi ms mp mq : Int) (mb : Bool) (i st pr q : Int) (b : Bool) (d n : Int) (lo : -9223372036854775808 ≤ t) (lo2 : -9223372036854775808 ≤ mp + mT f i t) (hi2 : mp + mT f i t ≤ 9223372036854775807) (h1 : ¬ pr ≤ mp + mT f i t) (h : ¬ 8 < mT f i t) (w : World) :
    Calls Try.prog 58 #[.agg #[], .agg #[.int .i64 f, .int .i64 t, .int .i64 y, .int .i64 p, .int .i64 l], .agg #[.int .i64 mi, .int .i64 ms, .int .i64 mp, .int .i64 mq, .bool mb], .agg #[.int .i64 i, .int .i64 st, .int .i64 pr, .int .i64 q, .bool b], .int .i64 d, .int .i64 n] w fun e w' => e = .returned (.tuple #[.agg #[.int .i64 2, .int .i64 (steps 1 n)], .agg #[.int .i64 i, .int .i64 (mT f i t), .int .i64 y, .int .i64 (mP f i p q), .int .i64 (mL f i l)]]) ∧ Hid (w.grownBy w' none) := by
  go_enter Try.func58, Try.ntmps58
  go_wp2_with fail
  refine (met_any f t y p l i st pr q b lo _).mono ?_
  rintro e v1 ⟨rfl, g⟩
  have M1 := Lib.hid (((((((Own.start w).skip _).alloc _ _).alloc _ _).alloc _ _).alloc _ _).alloc _ _ |>.grown g.out)
  simp only [size_alloc] at M1
  obtain ⟨e1, e1'⟩ := M1.out.ne' 1 4 rfl rfl (by decide)
  obtain ⟨e2, e2'⟩ := M1.out.ne' 0 4 rfl rfl (by decide)
  obtain ⟨e3, e3'⟩ := M1.out.ne' 0 1 rfl rfl (by decide)
  have s0 := M1.out.cell 4 0 rfl rfl; have s1 := M1.out.cell 4 1 rfl rfl; have s2 := M1.out.cell 4 2 rfl rfl; have s3 := M1.out.cell 4 3 rfl rfl; have s4 := M1.out.cell 4 4 rfl rfl
  have sf0 := M1.out.free 4 0 rfl; have sf1 := M1.out.free 4 1 rfl; have sf2 := M1.out.free 4 2 rfl; have sf3 := M1.out.free 4 3 rfl; have sf4 := M1.out.free 4 4 rfl
  go_upto_region 2 with fail
  generalize w.heap.size + 1 = sb at *
  generalize sb + 1 = mb1 at *
  generalize mb1 + 1 = fb at *
  generalize fb + 1 = kb at *
  generalize kb + 1 = rb at *
  have M2 := Lib.hid (((((M1.out.set 4 0 (.int .i64 i) rfl).set 4 1 (.int .i64 (mT f i t)) rfl).set 4 2 (.int .i64 y) rfl).set 4 3 (.int .i64 (mP f i p q)) rfl).set 4 4 (.int .i64 (mL f i l)) rfl)
  simp only [List.set_cons_succ, List.set_cons_zero] at M2
  generalize ((((((v1).setCell ⟨sb, 0, none⟩ (.int .i64 i)).setCell ⟨sb, 1, none⟩ (.int .i64 (mT f i t))).setCell ⟨sb, 2, none⟩ (.int .i64 y)).setCell ⟨sb, 3, none⟩ (.int .i64 (mP f i p q))).setCell ⟨sb, 4, none⟩ (.int .i64 (mL f i l))) = v2 at *
  clear s0 s1 s2 s3 s4 sf0 sf1 sf2 sf3 sf4
  have s0 := M2.out.cell 4 0 rfl rfl; have s1 := M2.out.cell 4 1 rfl rfl; have s2 := M2.out.cell 4 2 rfl rfl; have s3 := M2.out.cell 4 3 rfl rfl; have s4 := M2.out.cell 4 4 rfl rfl
  have m0 := M2.out.cell 3 0 rfl rfl; have m1 := M2.out.cell 3 1 rfl rfl; have m2 := M2.out.cell 3 2 rfl rfl; have m3 := M2.out.cell 3 3 rfl rfl; have m4 := M2.out.cell 3 4 rfl rfl
  have o0 := M2.out.cell 2 0 rfl rfl; have o1 := M2.out.cell 2 1 rfl rfl; have o2 := M2.out.cell 2 2 rfl rfl; have o3 := M2.out.cell 2 3 rfl rfl; have o4 := M2.out.cell 2 4 rfl rfl
  have k0 := M2.out.cell 1 0 rfl rfl; have k1 := M2.out.cell 1 1 rfl rfl
  have kf0 := M2.out.free 1 0 rfl; have kf1 := M2.out.free 1 1 rfl
  have r0 := M2.out.cell 0 0 rfl rfl; have r1 := M2.out.cell 0 1 rfl rfl; have r2 := M2.out.cell 0 2 rfl rfl; have r3 := M2.out.cell 0 3 rfl rfl; have r4 := M2.out.cell 0 4 rfl rfl
  have rf0 := M2.out.free 0 0 rfl; have rf1 := M2.out.free 0 1 rfl; have rf2 := M2.out.free 0 2 rfl; have rf3 := M2.out.free 0 3 rfl; have rf4 := M2.out.free 0 4 rfl
  go_wp2
  go_region_held3 (fun w' => w'.cell? ⟨sb, 0, none⟩ = some (.int .i64 i) ∧ w'.cell? ⟨sb, 1, none⟩ = some (.int .i64 (mT f i t)) ∧ w'.cell? ⟨sb, 2, none⟩ = some (.int .i64 y) ∧ w'.cell? ⟨sb, 3, none⟩ = some (.int .i64 (mP f i p q)) ∧ w'.cell? ⟨sb, 4, none⟩ = some (.int .i64 (mL f i l))) (go_keep) ((go_at_call 54; refine (for_any 1 n _).mono ?_; rintro e v3 ⟨rfl, g3⟩; have M3 := Lib.hid (M2.out.grown (gb_trans (by repeat (first | exact gb_refl _ _ | refine gb_drewN ?_ _ | refine gb_drew ?_ | refine gb_alloc ?_ _)) g3.out)); have c0 := M3.out.cell 4 0 rfl rfl; have c1 := M3.out.cell 4 1 rfl rfl; have c2 := M3.out.cell 4 2 rfl rfl; have c3 := M3.out.cell 4 3 rfl rfl; have c4 := M3.out.cell 4 4 rfl rfl; have kc0 := M3.out.cell 1 0 rfl rfl; have kc1 := M3.out.cell 1 1 rfl rfl; have kg0 := M3.out.free 1 0 rfl; have kg1 := M3.out.free 1 1 rfl; have rc0 := M3.out.cell 0 0 rfl rfl; have rc1 := M3.out.cell 0 1 rfl rfl; have rc2 := M3.out.cell 0 2 rfl rfl; have rc3 := M3.out.cell 0 3 rfl rfl; have rc4 := M3.out.cell 0 4 rfl rfl; have rg0 := M3.out.free 0 0 rfl; have rg1 := M3.out.free 0 1 rfl; have rg2 := M3.out.free 0 2 rfl; have rg3 := M3.out.free 0 3 rfl; have rg4 := M3.out.free 0 4 rfl))
  go_wp2
  have M4 := Lib.hid ((((((((M3.out.set 1 0 (.int .i64 2) rfl).set 1 1 (.int .i64 (steps 1 n)) rfl)).set 0 0 (.int .i64 i) rfl).set 0 1 (.int .i64 (mT f i t)) rfl).set 0 2 (.int .i64 y) rfl).set 0 3 (.int .i64 (mP f i p q)) rfl).set 0 4 (.int .i64 (mL f i l)) rfl)
  simp only [List.set_cons_succ, List.set_cons_zero] at M4
  generalize (((((((((v3).setCell ⟨kb, 0, none⟩ (.int .i64 2)).setCell ⟨kb, 1, none⟩ (.int .i64 (steps 1 n)))).setCell ⟨rb, 0, none⟩ (.int .i64 i)).setCell ⟨rb, 1, none⟩ (.int .i64 (mT f i t))).setCell ⟨rb, 2, none⟩ (.int .i64 y)).setCell ⟨rb, 3, none⟩ (.int .i64 (mP f i p q))).setCell ⟨rb, 4, none⟩ (.int .i64 (mL f i l))) = v4 at *
  clear s0 s1 s2 s3 s4 k0 k1 kf0 kf1 r0 r1 r2 r3 r4 rf0 rf1 rf2 rf3 rf4 c0 c1 c2 c3 c4 kc0 kc1 kg0 kg1 rc0 rc1 rc2 rc3 rc4 rg0 rg1 rg2 rg3 rg4
  have k0 := M4.out.cell 1 0 rfl rfl; have k1 := M4.out.cell 1 1 rfl rfl
  have r0 := M4.out.cell 0 0 rfl rfl; have r1 := M4.out.cell 0 1 rfl rfl; have r2 := M4.out.cell 0 2 rfl rfl; have r3 := M4.out.cell 0 3 rfl rfl; have r4 := M4.out.cell 0 4 rfl rfl
  refine bodyPost_ret (v := .tuple #[.agg #[.int .i64 2, .int .i64 (steps 1 n)], .agg #[.int .i64 i, .int .i64 (mT f i t), .int .i64 y, .int .i64 (mP f i p q), .int .i64 (mL f i l)]]) ?_ rfl ⟨rfl, M4.out.grow⟩
  simp [results, Try.results58, go_sem, *]

theorem decide_any (f t y p l mi ms mp mq : Int) (mb : Bool) (i st pr q : Int) (b : Bool) (d n : Int) (lo : -9223372036854775808 ≤ t) (lo2 : -9223372036854775808 ≤ mp + mT f i t) (hi2 : mp + mT f i t ≤ 9223372036854775807) (w : World) :
    Calls Try.prog 58 #[.agg #[], .agg #[.int .i64 f, .int .i64 t, .int .i64 y, .int .i64 p, .int .i64 l], .agg #[.int .i64 mi, .int .i64 ms, .int .i64 mp, .int .i64 mq, .bool mb], .agg #[.int .i64 i, .int .i64 st, .int .i64 pr, .int .i64 q, .bool b], .int .i64 d, .int .i64 n] w fun e w' => e = .returned (.tuple #[.agg #[.int .i64 (dK mp pr (mT f i t)), .int .i64 (dN mp pr (mT f i t) n)], .agg #[.int .i64 i, .int .i64 (mT f i t), .int .i64 y, .int .i64 (mP f i p q), .int .i64 (mL f i l)]]) ∧ Hid (w.grownBy w' none) := by
  by_cases h : pr ≤ mp + mT f i t ∨ 8 < mT f i t
  · rw [show dK mp pr (mT f i t) = 1 by simp [dK, h], show dN mp pr (mT f i t) n = 0 by simp [dN, h]]
    exact decide_late f t y p l mi ms mp mq mb i st pr q b d n lo lo2 hi2 (by omega) w
  · rw [show dK mp pr (mT f i t) = 2 by simp [dK, h], show dN mp pr (mT f i t) n = steps 1 n by simp [dN, h]]
    exact decide_early f t y p l mi ms mp mq mb i st pr q b d n lo lo2 hi2 (by omega) (by omega) w

/-- The first decision of a transaction. -/
theorem decide_new (mi ms mp mq : Int) (mb : Bool) (i st pr q : Int) (b : Bool) (d n : Int) (hi : 0 ≤ i) (lo2 : -9223372036854775808 ≤ mp + 1) (hi2 : mp + 1 ≤ 9223372036854775807) (w : World) :
    Calls Try.prog 58 #[.agg #[], .agg #[.int .i64 (-1), .int .i64 0, .int .i64 0, .int .i64 0, .int .i64 0], .agg #[.int .i64 mi, .int .i64 ms, .int .i64 mp, .int .i64 mq, .bool mb], .agg #[.int .i64 i, .int .i64 st, .int .i64 pr, .int .i64 q, .bool b], .int .i64 d, .int .i64 n] w fun e w' => e = .returned (.tuple #[.agg #[.int .i64 (dK mp pr 1), .int .i64 (dN mp pr 1 n)], .agg #[.int .i64 i, .int .i64 1, .int .i64 0, .int .i64 q, .int .i64 0]]) ∧ Hid (w.grownBy w' none) := by
  have e1 : mT (-1) i 0 = 1 := by unfold mT; rw [if_neg (by omega)]
  have e2 : mP (-1) i 0 q = q := by unfold mP; rw [if_neg (by omega)]
  have e3 : mL (-1) i 0 = 0 := by unfold mL; rw [if_neg (by omega)]
  have D := decide_any (-1) 0 0 0 0 mi ms mp mq mb i st pr q b d n (by omega) (by rw [e1]; exact lo2) (by rw [e1]; exact hi2) w
  rw [e1, e2, e3] at D
  exact D

end Go.Proofs.Ytnaagcofgnmmlaa.kar
