/- The contracts of package stamp: what is decided about a foe by both stamps, the tries, and whether one gave way; those of the document's own decision (quarrelref08), too. -/
import Derived.Test.YtnaagcofgnmmlaaRef05
import Derived.Test.YtnaagcofgnmmlaaOwnK
import Derived.Test.YtnaagcofgnmmlaaEqCh
import Derived.Test.YtnaagcofgnmmlaaMidK
import Derived.Deep.CutRange
import Derived.Deep.DeepCutAuto
import Derived.IntWalk
namespace Go.Proofs.Ytnaagcofgnmmlaa.sta
open Go Go.RowKit Go.Proofs.Ytnaagcofgnmmlaa.base Go.Proofs.Ytnaagcofgnmmlaa.ch
set_option linter.unusedVariables false

/-- The decision at a try T of one who gave way y times, of stamp ms, about a foe of stamp st: its kind, its steps, and how often one gave way behind it. -/
def dK (ms st T y : Int) : Int := if ms < st then 1 else if T ≤ 3 then 2 else if T = 4 ∧ y = 0 then 3 else 1
def dN (ms st T n : Int) : Int := if ms < st ∨ 3 < T then 0 else steps (n / 4 + 1) n
def dY (ms st T y : Int) : Int := if ¬ ms < st ∧ T = 4 ∧ y = 0 then 1 else y

theorem mT_hi (f i t : Int) : mT f i t ≤ 1000000 := by
  unfold mT cnt
  split <;> omega

theorem dOk (ms st T y n : Int) (h : 1 ≤ n) : okB (dK ms st T y) (dN ms st T n) n = true := by
  unfold dK dN
  by_cases h1 : ms < st
  · simp [h1, okB]
  by_cases h2 : T ≤ 3
  · simp only [if_neg h1, if_pos h2, if_neg (show ¬ (ms < st ∨ 3 < T) by omega), okB, steps]
    simp
    omega
  · simp only [if_neg h1, if_neg h2, if_pos (show ms < st ∨ 3 < T by omega)]
    split <;> simp [okB]

theorem decide_late (f t y p l mi ms mp mq : Int) (mb : Bool) (i st pr q : Int) (b : Bool) (d n : Int) (lo : -9223372036854775808 ≤ t) (hn : 0 ≤ n) (hn2 : n ≤ 1000) (h : ms < st ∨ (¬ ms < st ∧ ¬ mT f i t ≤ 3 ∧ ¬ mT f i t = 4) ∨ (¬ ms < st ∧ ¬ mT f i t ≤ 3 ∧ mT f i t = 4 ∧ ¬ y = 0)) (w : World) :
    Calls Try.prog 59 #[.agg #[], .agg #[.int .i64 f, .int .i64 t, .int .i64 y, .int .i64 p, .int .i64 l], .agg #[.int .i64 mi, .int .i64 ms, .int .i64 mp, .int .i64 mq, .bool mb], .agg #[.int .i64 i, .int .i64 st, .int .i64 pr, .int .i64 q, .bool b], .int .i64 d, .int .i64 n] w fun e w' => e = .returned (.tuple #[.agg #[.int .i64 1, .int .i64 0], .agg #[.int .i64 i, .int .i64 (mT f i t), .int .i64 y, .int .i64 (mP f i p q), .int .i64 (mL f i l)]]) ∧ Hid (w.grownBy w' none) := by
  rcases h with h | ⟨h, h3, h4⟩ | ⟨h, h3, h4, h5⟩
  all_goals
    first | (have hd : decide (ms < st) = true := by simpa using h) | (have hd : decide (ms < st) = false := by simpa using h)
    first | (have hd3 : decide (mT f i t ≤ 3) = false := by simpa using h3) | skip
    first | (have hd4 : (mT f i t == 4) = true := by simpa using h4) | (have hd4 : (mT f i t == 4) = false := by simpa using h4) | skip
    first | (have hd5 : (y == 0) = false := by simpa using h5) | skip
    clear h
    first | clear h3 | skip
    first | clear h4 | skip
    first | clear h5 | skip
    go_enter Try.func59, Try.ntmps59
    go_wp2_with fail
    refine (met_any f t y p l i st pr q b lo _).mono ?_
    rintro e v1 ⟨rfl, g⟩
    have M1 := Lib.hid (((((((Own.start w).skip _).alloc _ _).alloc _ _).alloc _ _).alloc _ _).alloc _ _ |>.grown g.out)
    simp only [size_alloc] at M1
    obtain ⟨e1, e1'⟩ := M1.out.ne' 1 4 rfl rfl (by decide)
    obtain ⟨e2, e2'⟩ := M1.out.ne' 0 4 rfl rfl (by decide)
    obtain ⟨e3, e3'⟩ := M1.out.ne' 0 1 rfl rfl (by decide)
    have s0 := M1.out.cell 4 0 rfl rfl; have s1 := M1.out.cell 4 1 rfl rfl; have s2 := M1.out.cell 4 2 rfl rfl; have s3 := M1.out.cell 4 3 rfl rfl; have s4 := M1.out.cell 4 4 rfl rfl
    have sf0 := M1.out.free 4 0 rfl; have sf1 := M1.out.free 4 1 rfl; have sf2 := M1.out.free 4 2 rfl; have sf3 := M1.out.free 4 3 rfl; have sf4 := M1.out.free 4 4 rfl
    go_upto_region 2 with fail
    generalize w.heap.size + 1 = sb at *
    generalize sb + 1 = mb1 at *
    generalize mb1 + 1 = fb at *
    generalize fb + 1 = kb at *
    generalize kb + 1 = rb at *
    have M2 := Lib.hid (((((M1.out.set 4 0 (.int .i64 i) rfl).set 4 1 (.int .i64 (mT f i t)) rfl).set 4 2 (.int .i64 y) rfl).set 4 3 (.int .i64 (mP f i p q)) rfl).set 4 4 (.int .i64 (mL f i l)) rfl)
    simp only [List.set_cons_succ, List.set_cons_zero] at M2
    generalize ((((((v1).setCell ⟨sb, 0, none⟩ (.int .i64 i)).setCell ⟨sb, 1, none⟩ (.int .i64 (mT f i t))).setCell ⟨sb, 2, none⟩ (.int .i64 y)).setCell ⟨sb, 3, none⟩ (.int .i64 (mP f i p q))).setCell ⟨sb, 4, none⟩ (.int .i64 (mL f i l))) = v2 at *
    clear s0 s1 s2 s3 s4 sf0 sf1 sf2 sf3 sf4
    have s0 := M2.out.cell 4 0 rfl rfl; have s1 := M2.out.cell 4 1 rfl rfl; have s2 := M2.out.cell 4 2 rfl rfl; have s3 := M2.out.cell 4 3 rfl rfl; have s4 := M2.out.cell 4 4 rfl rfl
    have m0 := M2.out.cell 3 0 rfl rfl; have m1 := M2.out.cell 3 1 rfl rfl; have m2 := M2.out.cell 3 2 rfl rfl; have m3 := M2.out.cell 3 3 rfl rfl; have m4 := M2.out.cell 3 4 rfl rfl
    have o0 := M2.out.cell 2 0 rfl rfl; have o1 := M2.out.cell 2 1 rfl rfl; have o2 := M2.out.cell 2 2 rfl rfl; have o3 := M2.out.cell 2 3 rfl rfl; have o4 := M2.out.cell 2 4 rfl rfl
    have k0 := M2.out.cell 1 0 rfl rfl; have k1 := M2.out.cell 1 1 rfl rfl
    have kf0 := M2.out.free 1 0 rfl; have kf1 := M2.out.free 1 1 rfl
    have r0 := M2.out.cell 0 0 rfl rfl; have r1 := M2.out.cell 0 1 rfl rfl; have r2 := M2.out.cell 0 2 rfl rfl; have r3 := M2.out.cell 0 3 rfl rfl; have r4 := M2.out.cell 0 4 rfl rfl
    have rf0 := M2.out.free 0 0 rfl; have rf1 := M2.out.free 0 1 rfl; have rf2 := M2.out.free 0 2 rfl; have rf3 := M2.out.free 0 3 rfl; have rf4 := M2.out.free 0 4 rfl
    go_wp2
    go_region
    go_wp2
    have M3 := Lib.hid (Own.drew ((((((((M2.out.set 1 0 (.int .i64 1) rfl).set 1 1 (.int .i64 0) rfl)).set 0 0 (.int .i64 i) rfl).set 0 1 (.int .i64 (mT f i t)) rfl).set 0 2 (.int .i64 y) rfl).set 0 3 (.int .i64 (mP f i p q)) rfl).set 0 4 (.int .i64 (mL f i l)) rfl))
    simp only [List.set_cons_succ, List.set_cons_zero] at M3
    generalize World.drew (((((((((v2).setCell ⟨kb, 0, none⟩ (.int .i64 1)).setCell ⟨kb, 1, none⟩ (.int .i64 0))).setCell ⟨rb, 0, none⟩ (.int .i64 i)).setCell ⟨rb, 1, none⟩ (.int .i64 (mT f i t))).setCell ⟨rb, 2, none⟩ (.int .i64 y)).setCell ⟨rb, 3, none⟩ (.int .i64 (mP f i p q))).setCell ⟨rb, 4, none⟩ (.int .i64 (mL f i l))) = v3 at *
    clear s0 s1 s2 s3 s4 k0 k1 kf0 kf1 r0 r1 r2 r3 r4 rf0 rf1 rf2 rf3 rf4
    have k0 := M3.out.cell 1 0 rfl rfl; have k1 := M3.out.cell 1 1 rfl rfl
    have r0 := M3.out.cell 0 0 rfl rfl; have r1 := M3.out.cell 0 1 rfl rfl; have r2 := M3.out.cell 0 2 rfl rfl; have r3 := M3.out.cell 0 3 rfl rfl; have r4 := M3.out.cell 0 4 rfl rfl
    refine bodyPost_ret (v := .tuple #[.agg #[.int .i64 1, .int .i64 0], .agg #[.int .i64 i, .int .i64 (mT f i t), .int .i64 y, .int .i64 (mP f i p q), .int .i64 (mL f i l)]]) ?_ rfl ⟨rfl, M3.out.grow⟩
    simp [results, Try.results59, go_sem, *]

theorem decide_gives (f t y p l mi ms mp mq : Int) (mb : Bool) (i st pr q : Int) (b : Bool) (d n : Int) (lo : -9223372036854775808 ≤ t) (hn : 0 ≤ n) (hn2 : n ≤ 1000) (h : ¬ ms < st) (h3 : ¬ mT f i t ≤ 3) (h4 : mT f i t = 4) (h5 : y = 0) (w : World) :
    Calls Try.prog 59 #[.agg #[], .agg #[.int .i64 f, .int .i64 t, .int .i64 y, .int .i64 p, .int .i64 l], .agg #[.int .i64 mi, .int .i64 ms, .int .i64 mp, .int .i64 mq, .bool mb], .agg #[.int .i64 i, .int .i64 st, .int .i64 pr, .int .i64 q, .bool b], .int .i64 d, .int .i64 n] w fun e w' => e = .returned (.tuple #[.agg #[.int .i64 3, .int .i64 0], .agg #[.int .i64 i, .int .i64 (mT f i t), .int .i64 1, .int .i64 (mP f i p q), .int .i64 (mL f i l)]]) ∧ Hid (w.grownBy w' none) := by
  have hd : decide (ms < st) = false := by simpa using h
  have hd3 : decide (mT f i t ≤ 3) = false := by simpa using h3
  have hd4 : (mT f i t == 4) = true := by simpa using h4
  subst h5
  clear h h3 h4
  go_enter Try.func59, Try.ntmps59
  go_wp2_with fail
  refine (met_any f t 0 p l i st pr q b lo _).mono ?_
  rintro e v1 ⟨rfl, g⟩
  have M1 := Lib.hid (((((((Own.start w).skip _).alloc _ _).alloc _ _).alloc _ _).alloc _ _).alloc _ _ |>.grown g.out)
  simp only [size_alloc] at M1
  obtain ⟨e1, e1'⟩ := M1.out.ne' 1 4 rfl rfl (by decide)
  obtain ⟨e2, e2'⟩ := M1.out.ne' 0 4 rfl rfl (by decide)
  obtain ⟨e3, e3'⟩ := M1.out.ne' 0 1 rfl rfl (by decide)
  have s0 := M1.out.cell 4 0 rfl rfl; have s1 := M1.out.cell 4 1 rfl rfl; have s2 := M1.out.cell 4 2 rfl rfl; have s3 := M1.out.cell 4 3 rfl rfl; have s4 := M1.out.cell 4 4 rfl rfl
  have sf0 := M1.out.free 4 0 rfl; have sf1 := M1.out.free 4 1 rfl; have sf2 := M1.out.free 4 2 rfl; have sf3 := M1.out.free 4 3 rfl; have sf4 := M1.out.free 4 4 rfl
  go_upto_region 2 with fail
  generalize w.heap.size + 1 = sb at *
  generalize sb + 1 = mb1 at *
  generalize mb1 + 1 = fb at *
  generalize fb + 1 = kb at *
  generalize kb + 1 = rb at *
  have M2 := Lib.hid (((((M1.out.set 4 0 (.int .i64 i) rfl).set 4 1 (.int .i64 (mT f i t)) rfl).set 4 2 (.int .i64 0) rfl).set 4 3 (.int .i64 (mP f i p q)) rfl).set 4 4 (.int .i64 (mL f i l)) rfl)
  simp only [List.set_cons_succ, List.set_cons_zero] at M2
  generalize ((((((v1).setCell ⟨sb, 0, none⟩ (.int .i64 i)).setCell ⟨sb, 1, none⟩ (.int .i64 (mT f i t))).setCell ⟨sb, 2, none⟩ (.int .i64 0)).setCell ⟨sb, 3, none⟩ (.int .i64 (mP f i p q))).setCell ⟨sb, 4, none⟩ (.int .i64 (mL f i l))) = v2 at *
  clear s0 s1 s2 s3 s4 sf0 sf1 sf2 sf3 sf4
  have s0 := M2.out.cell 4 0 rfl rfl; have s1 := M2.out.cell 4 1 rfl rfl; have s2 := M2.out.cell 4 2 rfl rfl; have s3 := M2.out.cell 4 3 rfl rfl; have s4 := M2.out.cell 4 4 rfl rfl
  have sf0 := M2.out.free 4 0 rfl; have sf1 := M2.out.free 4 1 rfl; have sf2 := M2.out.free 4 2 rfl; have sf3 := M2.out.free 4 3 rfl; have sf4 := M2.out.free 4 4 rfl
  have m0 := M2.out.cell 3 0 rfl rfl; have m1 := M2.out.cell 3 1 rfl rfl; have m2 := M2.out.cell 3 2 rfl rfl; have m3 := M2.out.cell 3 3 rfl rfl; have m4 := M2.out.cell 3 4 rfl rfl
  have o0 := M2.out.cell 2 0 rfl rfl; have o1 := M2.out.cell 2 1 rfl rfl; have o2 := M2.out.cell 2 2 rfl rfl; have o3 := M2.out.cell 2 3 rfl rfl; have o4 := M2.out.cell 2 4 rfl rfl
  go_upto_region 8 with fail
  have M3 := Lib.hid (M2.out.set 4 2 (.int .i64 1) rfl)
  simp only [List.set_cons_succ, List.set_cons_zero] at M3
  generalize v2.setCell ⟨sb, 2, none⟩ (.int .i64 1) = v3 at *
  clear s0 s1 s2 s3 s4 sf0 sf1 sf2 sf3 sf4 m0 m1 m2 m3 m4 o0 o1 o2 o3 o4
  have s0 := M3.out.cell 4 0 rfl rfl; have s1 := M3.out.cell 4 1 rfl rfl; have s2 := M3.out.cell 4 2 rfl rfl; have s3 := M3.out.cell 4 3 rfl rfl; have s4 := M3.out.cell 4 4 rfl rfl
  have k0 := M3.out.cell 1 0 rfl rfl; have k1 := M3.out.cell 1 1 rfl rfl
  have kf0 := M3.out.free 1 0 rfl; have kf1 := M3.out.free 1 1 rfl
  have r0 := M3.out.cell 0 0 rfl rfl; have r1 := M3.out.cell 0 1 rfl rfl; have r2 := M3.out.cell 0 2 rfl rfl; have r3 := M3.out.cell 0 3 rfl rfl; have r4 := M3.out.cell 0 4 rfl rfl
  have rf0 := M3.out.free 0 0 rfl; have rf1 := M3.out.free 0 1 rfl; have rf2 := M3.out.free 0 2 rfl; have rf3 := M3.out.free 0 3 rfl; have rf4 := M3.out.free 0 4 rfl
  go_region
  go_wp2
  have M4 := Lib.hid (Own.drew ((((((((M3.out.set 1 0 (.int .i64 3) rfl).set 1 1 (.int .i64 0) rfl)).set 0 0 (.int .i64 i) rfl).set 0 1 (.int .i64 (mT f i t)) rfl).set 0 2 (.int .i64 1) rfl).set 0 3 (.int .i64 (mP f i p q)) rfl).set 0 4 (.int .i64 (mL f i l)) rfl))
  simp only [List.set_cons_succ, List.set_cons_zero] at M4
  generalize World.drew (((((((((v3).setCell ⟨kb, 0, none⟩ (.int .i64 3)).setCell ⟨kb, 1, none⟩ (.int .i64 0))).setCell ⟨rb, 0, none⟩ (.int .i64 i)).setCell ⟨rb, 1, none⟩ (.int .i64 (mT f i t))).setCell ⟨rb, 2, none⟩ (.int .i64 1)).setCell ⟨rb, 3, none⟩ (.int .i64 (mP f i p q))).setCell ⟨rb, 4, none⟩ (.int .i64 (mL f i l))) = v4 at *
  clear s0 s1 s2 s3 s4 k0 k1 kf0 kf1 r0 r1 r2 r3 r4 rf0 rf1 rf2 rf3 rf4
  have k0 := M4.out.cell 1 0 rfl rfl; have k1 := M4.out.cell 1 1 rfl rfl
  have r0 := M4.out.cell 0 0 rfl rfl; have r1 := M4.out.cell 0 1 rfl rfl; have r2 := M4.out.cell 0 2 rfl rfl; have r3 := M4.out.cell 0 3 rfl rfl; have r4 := M4.out.cell 0 4 rfl rfl
  refine bodyPost_ret (v := .tuple #[.agg #[.int .i64 3, .int .i64 0], .agg #[.int .i64 i, .int .i64 (mT f i t), .int .i64 1, .int .i64 (mP f i p q), .int .i64 (mL f i l)]]) ?_ rfl ⟨rfl, M4.out.grow⟩
  simp [results, Try.results59, go_sem, *]

theorem decide_early (f t y p l mi ms mp mq : Int) (mb : Bool) (i st pr q : Int) (b : Bool) (d n : Int) (lo : -9223372036854775808 ≤ t) (hn : 0 ≤ n) (hn2 : n ≤ 1000) (h : ¬ ms < st) (h3 : mT f i t ≤ 3) (w : World) :
    Calls Try.prog 59 #[.agg #[], .agg #[.int .i64 f, .int .i64 t, .int .i64 y, .int .i64 p, .int .i64 l], .agg #[.int .i64 mi, .int .i64 ms, .int .i64 mp, .int .i64 mq, .bool mb], .agg #[.int .i64 i, .int .i64 st, .int .i64 pr, .int .i64 q, .bool b], .int .i64 d, .int .i64 n] w fun e w' => e = .returned (.tuple #[.agg #[.int .i64 2, .int .i64 (steps (n / 4 + 1) n)], .agg #[.int .i64 i, .int .i64 (mT f i t), .int .i64 y, .int .i64 (mP f i p q), .int .i64 (mL f i l)]]) ∧ Hid (w.grownBy w' none) := by
  have hd : decide (ms < st) = false := by simpa using h
  have hd3 : decide (mT f i t ≤ 3) = true := by simpa using h3
  have hq : n.tdiv 4 = n / 4 := Int.tdiv_eq_ediv_of_nonneg hn
  have hq1 : 0 ≤ n / 4 := by omega
  have hq2 : n / 4 ≤ 250 := by omega
  have HQ := Lib.hid (show IntKind.i64.wrap (IntKind.i64.wrap (n.tdiv 4) + 1) = n / 4 + 1 by rw [hq, IntWalk.i64_in (n / 4) (by omega), IntWalk.i64_in (n / 4 + 1) (by omega)])
  clear hq hq1 hq2
  clear h h3
  go_enter Try.func59, Try.ntmps59
  go_wp2_with fail
  refine (met_any f t y p l i st pr q b lo _).mono ?_
  rintro e v1 ⟨rfl, g⟩
  have M1 := Lib.hid (((((((Own.start w).skip _).alloc _ _).alloc _ _).alloc _ _).alloc _ _).alloc _ _ |>.grown g.out)
  simp only [size_alloc] at M1
  obtain ⟨e1, e1'⟩ := M1.out.ne' 1 4 rfl rfl (by decide)
  obtain ⟨e2, e2'⟩ := M1.out.ne' 0 4 rfl rfl (by decide)
  obtain ⟨e3, e3'⟩ := M1.out.ne' 0 1 rfl rfl (by decide)
  have s0 := M1.out.cell 4 0 rfl rfl; have s1 := M1.out.cell 4 1 rfl rfl; have s2 := M1.out.cell 4 2 rfl rfl; have s3 := M1.out.cell 4 3 rfl rfl; have s4 := M1.out.cell 4 4 rfl rfl
  have sf0 := M1.out.free 4 0 rfl; have sf1 := M1.out.free 4 1 rfl; have sf2 := M1.out.free 4 2 rfl; have sf3 := M1.out.free 4 3 rfl; have sf4 := M1.out.free 4 4 rfl
  go_upto_region 2 with fail
  generalize w.heap.size + 1 = sb at *
  generalize sb + 1 = mb1 at *
  generalize mb1 + 1 = fb at *
  generalize fb + 1 = kb at *
  generalize kb + 1 = rb at *
  have M2 := Lib.hid (((((M1.out.set 4 0 (.int .i64 i) rfl).set 4 1 (.int .i64 (mT f i t)) rfl).set 4 2 (.int .i64 y) rfl).set 4 3 (.int .i64 (mP f i p q)) rfl).set 4 4 (.int .i64 (mL f i l)) rfl)
  simp only [List.set_cons_succ, List.set_cons_zero] at M2
  generalize ((((((v1).setCell ⟨sb, 0, none⟩ (.int .i64 i)).setCell ⟨sb, 1, none⟩ (.int .i64 (mT f i t))).setCell ⟨sb, 2, none⟩ (.int .i64 y)).setCell ⟨sb, 3, none⟩ (.int .i64 (mP f i p q))).setCell ⟨sb, 4, none⟩ (.int .i64 (mL f i l))) = v2 at *
  clear s0 s1 s2 s3 s4 sf0 sf1 sf2 sf3 sf4
  have s0 := M2.out.cell 4 0 rfl rfl; have s1 := M2.out.cell 4 1 rfl rfl; have s2 := M2.out.cell 4 2 rfl rfl; have s3 := M2.out.cell 4 3 rfl rfl; have s4 := M2.out.cell 4 4 rfl rfl
  have m0 := M2.out.cell 3 0 rfl rfl; have m1 := M2.out.cell 3 1 rfl rfl; have m2 := M2.out.cell 3 2 rfl rfl; have m3 := M2.out.cell 3 3 rfl rfl; have m4 := M2.out.cell 3 4 rfl rfl
  have o0 := M2.out.cell 2 0 rfl rfl; have o1 := M2.out.cell 2 1 rfl rfl; have o2 := M2.out.cell 2 2 rfl rfl; have o3 := M2.out.cell 2 3 rfl rfl; have o4 := M2.out.cell 2 4 rfl rfl
  have k0 := M2.out.cell 1 0 rfl rfl; have k1 := M2.out.cell 1 1 rfl rfl
  have kf0 := M2.out.free 1 0 rfl; have kf1 := M2.out.free 1 1 rfl
  have r0 := M2.out.cell 0 0 rfl rfl; have r1 := M2.out.cell 0 1 rfl rfl; have r2 := M2.out.cell 0 2 rfl rfl; have r3 := M2.out.cell 0 3 rfl rfl; have r4 := M2.out.cell 0 4 rfl rfl
  have rf0 := M2.out.free 0 0 rfl; have rf1 := M2.out.free 0 1 rfl; have rf2 := M2.out.free 0 2 rfl; have rf3 := M2.out.free 0 3 rfl; have rf4 := M2.out.free 0 4 rfl
  go_wp2
  go_region_held3 (fun w' => w'.cell? ⟨sb, 0, none⟩ = some (.int .i64 i) ∧ w'.cell? ⟨sb, 1, none⟩ = some (.int .i64 (mT f i t)) ∧ w'.cell? ⟨sb, 2, none⟩ = some (.int .i64 y) ∧ w'.cell? ⟨sb, 3, none⟩ = some (.int .i64 (mP f i p q)) ∧ w'.cell? ⟨sb, 4, none⟩ = some (.int .i64 (mL f i l))) (go_keep) ((go_at_call 54; refine (for_any _ n _).mono ?_; rintro e v3 ⟨rfl, g3⟩; rw [HQ.out]; have M3 := Lib.hid (M2.out.grown (gb_trans (by repeat (first | exact gb_refl _ _ | refine gb_drewN ?_ _ | refine gb_drew ?_ | refine gb_alloc ?_ _)) g3.out)); have c0 := M3.out.cell 4 0 rfl rfl; have c1 := M3.out.cell 4 1 rfl rfl; have c2 := M3.out.cell 4 2 rfl rfl; have c3 := M3.out.cell 4 3 rfl rfl; have c4 := M3.out.cell 4 4 rfl rfl; have kc0 := M3.out.cell 1 0 rfl rfl; have kc1 := M3.out.cell 1 1 rfl rfl; have kg0 := M3.out.free 1 0 rfl; have kg1 := M3.out.free 1 1 rfl; have rc0 := M3.out.cell 0 0 rfl rfl; have rc1 := M3.out.cell 0 1 rfl rfl; have rc2 := M3.out.cell 0 2 rfl rfl; have rc3 := M3.out.cell 0 3 rfl rfl; have rc4 := M3.out.cell 0 4 rfl rfl; have rg0 := M3.out.free 0 0 rfl; have rg1 := M3.out.free 0 1 rfl; have rg2 := M3.out.free 0 2 rfl; have rg3 := M3.out.free 0 3 rfl; have rg4 := M3.out.free 0 4 rfl))
  go_wp2
  have M4 := Lib.hid ((((((((M3.out.set 1 0 (.int .i64 2) rfl).set 1 1 (.int .i64 (steps (n / 4 + 1) n)) rfl)).set 0 0 (.int .i64 i) rfl).set 0 1 (.int .i64 (mT f i t)) rfl).set 0 2 (.int .i64 y) rfl).set 0 3 (.int .i64 (mP f i p q)) rfl).set 0 4 (.int .i64 (mL f i l)) rfl)
  simp only [List.set_cons_succ, List.set_cons_zero] at M4
  generalize (((((((((v3).setCell ⟨kb, 0, none⟩ (.int .i64 2)).setCell ⟨kb, 1, none⟩ (.int .i64 (steps (n / 4 + 1) n)))).setCell ⟨rb, 0, none⟩ (.int .i64 i)).setCell ⟨rb, 1, none⟩ (.int .i64 (mT f i t))).setCell ⟨rb, 2, none⟩ (.int .i64 y)).setCell ⟨rb, 3, none⟩ (.int .i64 (mP f i p q))).setCell ⟨rb, 4, none⟩ (.int .i64 (mL f i l))) = v4 at *
  clear s0 s1 s2 s3 s4 k0 k1 kf0 kf1 r0 r1 r2 r3 r4 rf0 rf1 rf2 rf3 rf4 c0 c1 c2 c3 c4 kc0 kc1 kg0 kg1 rc0 rc1 rc2 rc3 rc4 rg0 rg1 rg2 rg3 rg4
  have k0 := M4.out.cell 1 0 rfl rfl; have k1 := M4.out.cell 1 1 rfl rfl
  have r0 := M4.out.cell 0 0 rfl rfl; have r1 := M4.out.cell 0 1 rfl rfl; have r2 := M4.out.cell 0 2 rfl rfl; have r3 := M4.out.cell 0 3 rfl rfl; have r4 := M4.out.cell 0 4 rfl rfl
  refine bodyPost_ret (v := .tuple #[.agg #[.int .i64 2, .int .i64 (steps (n / 4 + 1) n)], .agg #[.int .i64 i, .int .i64 (mT f i t), .int .i64 y, .int .i64 (mP f i p q), .int .i64 (mL f i l)]]) ?_ rfl ⟨rfl, M4.out.grow⟩
  simp [results, Try.results59, go_sem, *]

theorem decide_any (f t y p l mi ms mp mq : Int) (mb : Bool) (i st pr q : Int) (b : Bool) (d n : Int) (lo : -9223372036854775808 ≤ t) (hn : 0 ≤ n) (hn2 : n ≤ 1000) (w : World) :
    Calls Try.prog 59 #[.agg #[], .agg #[.int .i64 f, .int .i64 t, .int .i64 y, .int .i64 p, .int .i64 l], .agg #[.int .i64 mi, .int .i64 ms, .int .i64 mp, .int .i64 mq, .bool mb], .agg #[.int .i64 i, .int .i64 st, .int .i64 pr, .int .i64 q, .bool b], .int .i64 d, .int .i64 n] w fun e w' => e = .returned (.tuple #[.agg #[.int .i64 (dK ms st (mT f i t) y), .int .i64 (dN ms st (mT f i t) n)], .agg #[.int .i64 i, .int .i64 (mT f i t), .int .i64 (dY ms st (mT f i t) y), .int .i64 (mP f i p q), .int .i64 (mL f i l)]]) ∧ Hid (w.grownBy w' none) := by
  by_cases h : ms < st
  · rw [show dK ms st (mT f i t) y = 1 by simp [dK, h], show dN ms st (mT f i t) n = 0 by simp [dN, h], show dY ms st (mT f i t) y = y by simp [dY, h]]
    exact decide_late f t y p l mi ms mp mq mb i st pr q b d n lo hn hn2 (.inl h) w
  by_cases h3 : mT f i t ≤ 3
  · rw [show dK ms st (mT f i t) y = 2 by unfold dK; rw [if_neg h, if_pos h3], show dN ms st (mT f i t) n = steps (n / 4 + 1) n by unfold dN; rw [if_neg (by omega)], show dY ms st (mT f i t) y = y by unfold dY; rw [if_neg (by omega)]]
    exact decide_early f t y p l mi ms mp mq mb i st pr q b d n lo hn hn2 h h3 w
  rw [show dN ms st (mT f i t) n = 0 by unfold dN; rw [if_pos (by omega)]]
  by_cases h4 : mT f i t = 4
  · by_cases h5 : y = 0
    · rw [show dK ms st (mT f i t) y = 3 by unfold dK; rw [if_neg h, if_neg h3, if_pos ⟨h4, h5⟩], show dY ms st (mT f i t) y = 1 by unfold dY; rw [if_pos ⟨h, h4, h5⟩]]
      exact decide_gives f t y p l mi ms mp mq mb i st pr q b d n lo hn hn2 h h3 h4 h5 w
    · rw [show dK ms st (mT f i t) y = 1 by unfold dK; rw [if_neg h, if_neg h3, if_neg (fun x => h5 x.2)], show dY ms st (mT f i t) y = y by unfold dY; rw [if_neg (fun x => h5 x.2.2)]]
      exact decide_late f t y p l mi ms mp mq mb i st pr q b d n lo hn hn2 (.inr (.inr ⟨h, h3, h4, h5⟩)) w
  · rw [show dK ms st (mT f i t) y = 1 by unfold dK; rw [if_neg h, if_neg h3, if_neg (fun x => h4 x.1)], show dY ms st (mT f i t) y = y by unfold dY; rw [if_neg (fun x => h4 x.2.1)]]
    exact decide_late f t y p l mi ms mp mq mb i st pr q b d n lo hn hn2 (.inr (.inl ⟨h, h3, h4⟩)) w

/-- Rounds of the document's count: four of them are one more. -/
def Cnt (w : World) (n : Int) (iv : Value) (wr : World) : Prop := ∃ k : Int, iv = .int .i64 k ∧ wr = w ∧ 1 ≤ k ∧ k ≤ n / 4 + 1

/-- The first decision of a transaction. -/
theorem decide_new (mi ms mp mq : Int) (mb : Bool) (i st pr q : Int) (b : Bool) (d n : Int) (hi : 0 ≤ i) (hn : 0 ≤ n) (hn2 : n ≤ 1000) (w : World) :
    Calls Try.prog 59 #[.agg #[], .agg #[.int .i64 (-1), .int .i64 0, .int .i64 0, .int .i64 0, .int .i64 0], .agg #[.int .i64 mi, .int .i64 ms, .int .i64 mp, .int .i64 mq, .bool mb], .agg #[.int .i64 i, .int .i64 st, .int .i64 pr, .int .i64 q, .bool b], .int .i64 d, .int .i64 n] w fun e w' => e = .returned (.tuple #[.agg #[.int .i64 (dK ms st 1 0), .int .i64 (dN ms st 1 n)], .agg #[.int .i64 i, .int .i64 1, .int .i64 0, .int .i64 q, .int .i64 0]]) ∧ Hid (w.grownBy w' none) := by
  have e1 : mT (-1) i 0 = 1 := by unfold mT; rw [if_neg (by omega)]
  have e2 : mP (-1) i 0 q = q := by unfold mP; rw [if_neg (by omega)]
  have e3 : mL (-1) i 0 = 0 := by unfold mL; rw [if_neg (by omega)]
  have e4 : dY ms st 1 0 = 0 := by unfold dY; rw [if_neg (by omega)]
  have D := decide_any (-1) 0 0 0 0 mi ms mp mq mb i st pr q b d n (by omega) hn hn2 w
  rw [e1, e2, e3, e4] at D
  exact D

end Go.Proofs.Ytnaagcofgnmmlaa.sta
