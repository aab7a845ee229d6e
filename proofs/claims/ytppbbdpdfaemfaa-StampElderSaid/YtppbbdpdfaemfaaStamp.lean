/- The contracts of package stamp: what is decided about a foe by both stamps, the tries, and whether one gave way; those of the document's own decision (quarrelref08), too. -/
import Derived.Test.YtppbbdpdfaemfaaRef05
import Derived.Test.YtppbbdpdfaemfaaOwn
import Derived.Test.YtppbbdpdfaemfaaEqCh
import Derived.Test.YtppbbdpdfaemfaaMid
import Derived.Deep.CutRange
import Derived.Deep.DeepCutAuto
import Derived.IntWalk
namespace Go.Proofs.Ytppbbdpdfaemfaa.sta
open Go Go.RowKit Go.Proofs.Ytppbbdpdfaemfaa.base Go.Proofs.Ytppbbdpdfaemfaa.ch
set_option linter.unusedVariables false

/-- The decision at a try T of one who gave way y times, of stamp ms, about a foe of stamp st: its kind, its steps, and how often one gave way behind it. -/
def dK (ms st T y : Int) : Int := if ms < st then 1 else if T ≤ 3 then 2 else if T = 4 ∧ y = 0 then 3 else 1
def dN (ms st T n : Int) : Int := if ms < st ∨ 3 < T then 0 else steps (n / 4 + 1) n
def dY (ms st T y : Int) : Int := if ¬ ms < st ∧ T = 4 ∧ y = 0 then 1 else y

theorem mT_hi (f i t : Int) : mT f i t ≤ 1000000 := by
  unfold mT cnt
  split <;> omega

theorem dOk (ms st T y n : Int) (h : 1 ≤ n) : okB (dK ms st T y) (dN ms st T n) n = true := by
  unfold dK dN
  by_cases h1 : ms < st
  · simp [h1, okB]
  by_cases h2 : T ≤ 3
  · simp only [if_neg h1, if_pos h2, if_neg (show ¬ (ms < st ∨ 3 < T) by omega), okB, steps]
    simp
    omega
  · simp only [if_neg h1, if_neg h2, if_pos (show ms < st ∨ 3 < T by omega)]
    split <;> simp [okB]

theorem marks_any (w : World) : Calls Try.prog 14 #[.agg #[]] w fun e w' => e = .returned (.bool false) ∧ Hid (w.grownBy w' none) := by
  go_enter Try.func14, Try.ntmps14
  go_wp2
  go_ret
  exact ⟨rfl, gb_alloc (gb_refl _ _) _⟩

theorem decide_late (f t y p l mi ms mp mq : Int) (mb : Bool) (i st pr q : Int) (b : Bool) (d n : Int) (lo : -9223372036854775808 ≤ t) (hn : 0 ≤ n) (hn2 : n ≤ 1000) (h : ms < st ∨ (¬ ms < st ∧ ¬ mT f i t ≤ 3 ∧ ¬ mT f i t = 4) ∨ (¬ ms < st ∧ ¬ mT f i t ≤ 3 ∧ mT f i t = 4 ∧ ¬ y = 0)) (w : World) :
    Calls Try.prog 8 #[.agg #[], .agg #[.int .i64 f, .int .i64 t, .int .i64 y, .int .i64 p, .int .i64 l], .agg #[.int .i64 mi, .int .i64 ms, .int .i64 mp, .int .i64 mq, .bool mb], .agg #[.int .i64 i, .int .i64 st, .int .i64 pr, .int .i64 q, .bool b], .int .i64 d, .int .i64 n] w fun e w' => e = .returned (.tuple #[.agg #[.int .i64 1, .int .i64 0], .agg #[.int .i64 i, .int .i64 (mT f i t), .int .i64 y, .int .i64 (mP f i p q), .int .i64 (mL f i l)]]) ∧ Hid (w.grownBy w' none) := by
  rcases h with h | ⟨h, h3, h4⟩ | ⟨h, h3, h4, h5⟩
  all_goals
    first | (have hd : decide (ms < st) = true := by simpa using h) | (have hd : decide (ms < st) = false := by simpa using h)
    first | (have hd3 : decide (mT f i t ≤ 3) = false := by simpa using h3) | skip
    first | (have hd4 : (mT f i t == 4) = true := by simpa using h4) | (have hd4 : (mT f i t == 4) = false := by simpa using h4) | skip
    first | (have hd5 : (y == 0) = false := by simpa using h5) | skip
    clear h
    first | clear h3 | skip
    first | clear h4 | skip
    first | clear h5 | skip
    go_enter Try.func8, Try.ntmps8
    go_wp2_with fail
    refine (met_any f t y p l i st pr q b lo _).mono ?_
    rintro e v1 ⟨rfl, g⟩
    have M1 := Lib.hid (((((((Own.start w).skip _).alloc _ _).alloc _ _).alloc _ _).alloc _ _).alloc _ _ |>.grown g.out)
    simp only [size_alloc] at M1
    obtain ⟨e1, e1'⟩ := M1.out.ne' 1 4 rfl rfl (by decide)
    obtain ⟨e2, e2'⟩ := M1.out.ne' 0 4 rfl rfl (by decide)
    obtain ⟨e3, e3'⟩ := M1.out.ne' 0 1 rfl rfl (by decide)
    have s0 := M1.out.cell 4 0 rfl rfl; have s1 := M1.out.cell 4 1 rfl rfl; have s2 := M1.out.cell 4 2 rfl rfl; have s3 := M1.out.cell 4 3 rfl rfl; have s4 := M1.out.cell 4 4 rfl rfl
    have sf0 := M1.out.free 4 0 rfl; have sf1 := M1.out.free 4 1 rfl; have sf2 := M1.out.free 4 2 rfl; have sf3 := M1.out.free 4 3 rfl; have sf4 := M1.out.free 4 4 rfl
    go_upto_region 2 with fail
    generalize w.heap.size + 1 = sb at *
    generalize sb + 1 = mb1 at *
    generalize mb1 + 1 = fb at *
    generalize fb + 1 = kb at *
    generalize kb + 1 = rb at *
    have M2 := Lib.hid (((((M1.out.set 4 0 (.int .i64 i) rfl).set 4 1 (.int .i64 (mT f i t)) rfl).set 4 2 (.int .i64 y) rfl).set 4 3 (.int .i64 (mP f i p q)) rfl).set 4 4 (.int .i64 (mL f i l)) rfl)
    simp only [List.set_cons_succ, List.set_cons_zero] at M2
    generalize ((((((v1).setCell ⟨sb, 0, none⟩ (.int .i64 i)).setCell ⟨sb, 1, none⟩ (.int .i64 (mT f i t))).setCell ⟨sb, 2, none⟩ (.int .i64 y)).setCell ⟨sb, 3, none⟩ (.int .i64 (mP f i p q))).setCell ⟨sb, 4, none⟩ (.int .i64 (mL f i l))) = v2 at *
    clear s0 s1 s2 s3 s4 sf0 sf1 sf2 sf3 sf4
    have s0 := M2.out.cell 4 0 rfl rfl; have s1 := M2.out.cell 4 1 rfl rfl; have s2 := M2.out.cell 4 2 rfl rfl; have s3 := M2.out.cell 4 3 rfl rfl; have s4 := M2.out.cell 4 4 rfl rfl
    have m0 := M2.out.cell 3 0 rfl rfl; have m1 := M2.out.cell 3 1 rfl rfl; have m2 := M2.out.cell 3 2 rfl rfl; have m3 := M2.out.cell 3 3 rfl rfl; have m4 := M2.out.cell 3 4 rfl rfl
    have o0 := M2.out.cell 2 0 rfl rfl; have o1 := M2.out.cell 2 1 rfl rfl; have o2 := M2.out.cell 2 2 rfl rfl; have o3 := M2.out.cell 2 3 rfl rfl; have o4 := M2.out.cell 2 4 rfl rfl
    have k0 := M2.out.cell 1 0 rfl rfl; have k1 := M2.out.cell 1 1 rfl rfl
    have kf0 := M2.out.free 1 0 rfl; have kf1 := M2.out.free 1 1 rfl
    have r0 := M2.out.cell 0 0 rfl rfl; have r1 := M2.out.cell 0 1 rfl rfl; have r2 := M2.out.cell 0 2 rfl rfl; have r3 := M2.out.cell 0 3 rfl rfl; have r4 := M2.out.cell 0 4 rfl rfl
    have rf0 := M2.out.free 0 0 rfl; have rf1 := M2.out.free 0 1 rfl; have rf2 := M2.out.free 0 2 rfl; have rf3 := M2.out.free 0 3 rfl; have rf4 := M2.out.free 0 4 rfl
    go_wp2
    go_region
    go_wp2
    have M3 := Lib.hid (Own.drew ((((((((M2.out.set 1 0 (.int .i64 1) rfl).set 1 1 (.int .i64 0) rfl)).set 0 0 (.int .i64 i) rfl).set 0 1 (.int .i64 (mT f i t)) rfl).set 0 2 (.int .i64 y) rfl).set 0 3 (.int .i64 (mP f i p q)) rfl).set 0 4 (.int .i64 (mL f i l)) rfl))
    simp only [List.set_cons_succ, List.set_cons_zero] at M3
    generalize World.drew (((((((((v2).setCell ⟨kb, 0, none⟩ (.int .i64 1)).setCell ⟨kb, 1, none⟩ (.int .i64 0))).setCell ⟨rb, 0, none⟩ (.int .i64 i)).setCell ⟨rb, 1, none⟩ (.int .i64 (mT f i t))).setCell ⟨rb, 2, none⟩ (.int .i64 y)).setCell ⟨rb, 3, none⟩ (.int .i64 (mP f i p q))).setCell ⟨rb, 4, none⟩ (.int .i64 (mL f i l))) = v3 at *
    clear s0 s1 s2 s3 s4 k0 k1 kf0 kf1 r0 r1 r2 r3 r4 rf0 rf1 rf2 rf3 rf4
    have k0 := M3.out.cell 1 0 rfl rfl; have k1 := M3.out.cell 1 1 rfl rfl
    have r0 := M3.out.cell 0 0 rfl rfl; have r1 := M3.out.cell 0 1 rfl rfl; have r2 := M3.out.cell 0 2 rfl rfl; have r3 := M3.out.cell 0 3 rfl rfl; have r4 := M3.out.cell 0 4 rfl rfl
    refine bodyPost_ret (v := .tuple #[.agg #[.int .i64 1, .int .i64 0], .agg #[.int .i64 i, .int .i64 (mT f i t), .int .i64 y, .int .i64 (mP f i p q), .int .i64 (mL f i l)]]) ?_ rfl ⟨rfl, M3.out.grow⟩
    simp [results, Try.results8, go_sem, *]

theorem decide_gives (f t y p l mi ms mp mq : Int) (mb : Bool) (i st pr q : Int) (b : Bool) (d n : Int) (lo : -9223372036854775808 ≤ t) (hn : 0 ≤ n) (hn2 : n ≤ 1000) (h : ¬ ms < st) (h3 : ¬ mT f i t ≤ 3) (h4 : mT f i t = 4) (h5 : y = 0) (w : World) :
    Calls Try.prog 8 #[.agg #[], .agg #[.int .i64 f, .int .i64 t, .int .i64 y, .int .i64 p, .int .i64 l], .agg #[.int .i64 mi, .int .i64 ms, .int .i64 mp, .int .i64 mq, .bool mb], .agg #[.int .i64 i, .int .i64 st, .int .i64 pr, .int .i64 q, .bool b], .int .i64 d, .int .i64 n] w fun e w' => e = .returned (.tuple #[.agg #[.int .i64 3, .int .i64 0], .agg #[.int .i64 i, .int .i64 (mT f i t), .int .i64 1, .int .i64 (mP f i p q), .int .i64 (mL f i l)]]) ∧ Hid (w.grownBy w' none) := by
  have hd : decide (ms < st) = false := by simpa using h
  have hd3 : decide (mT f i t ≤ 3) = false := by simpa using h3
  have hd4 : (mT f i t == 4) = true := by simpa using h4
  subst h5
  clear h h3 h4
  go_enter Try.func8, Try.ntmps8
  go_wp2_with fail
  refine (met_any f t 0 p l i st pr q b lo _).mono ?_
  rintro e v1 ⟨rfl, g⟩
  have M1 := Lib.hid (((((((Own.start w).skip _).alloc _ _).alloc _ _).alloc _ _).alloc _ _).alloc _ _ |>.grown g.out)
  simp only [size_alloc] at M1
  obtain ⟨e1, e1'⟩ := M1.out.ne' 1 4 rfl rfl (by decide)
  obtain ⟨e2, e2'⟩ := M1.out.ne' 0 4 rfl rfl (by decide)
  obtain ⟨e3, e3'⟩ := M1.out.ne' 0 1 rfl rfl (by decide)
  have s0 := M1.out.cell 4 0 rfl rfl; have s1 := M1.out.cell 4 1 rfl rfl; have s2 := M1.out.cell 4 2 rfl rfl; have s3 := M1.out.cell 4 3 rfl rfl; have s4 := M1.out.cell 4 4 rfl rfl
  have sf0 := M1.out.free 4 0 rfl; have sf1 := M1.out.free 4 1 rfl; have sf2 := M1.out.free 4 2 rfl; have sf3 := M1.out.free 4 3 rfl; have sf4 := M1.out.free 4 4 rfl
  go_upto_region 2 with fail
  generalize w.heap.size + 1 = sb at *
  generalize sb + 1 = mb1 at *
  generalize mb1 + 1 = fb at *
  generalize fb + 1 = kb at *
  generalize kb + 1 = rb at *
  have M2 := Lib.hid (((((M1.out.set 4 0 (.int .i64 i) rfl).set 4 1 (.int .i64 (mT f i t)) rfl).set 4 2 (.int .i64 0) rfl).set 4 3 (.int .i64 (mP f i p q)) rfl).set 4 4 (.int .i64 (mL f i l)) rfl)
  simp only [List.set_cons_succ, List.set_cons_zero] at M2
  generalize ((((((v1).setCell ⟨sb, 0, none⟩ (.int .i64 i)).setCell ⟨sb, 1, none⟩ (.int .i64 (mT f i t))).setCell ⟨sb, 2, none⟩ (.int .i64 0)).setCell ⟨sb, 3, none⟩ (.int .i64 (mP f i p q))).setCell ⟨sb, 4, none⟩ (.int .i64 (mL f i l))) = v2 at *
  clear s0 s1 s2 s3 s4 sf0 sf1 sf2 sf3 sf4
  have s0 := M2.out.cell 4 0 rfl rfl; have s1 := M2.out.cell 4 1 rfl rfl; have s2 := M2.out.cell 4 2 rfl rfl; have s3 := M2.out.cell 4 3 rfl rfl; have s4 := M2.out.cell 4 4 rfl rfl
  have sf0 := M2.out.free 4 0 rfl; have sf1 := M2.out.free 4 1 rfl; have sf2 := M2.out.free 4 2 rfl; have sf3 := M2.out.free 4 3 rfl; have sf4 := M2.out.free 4 4 rfl
  have m0 := M2.out.cell 3 0 rfl rfl; have m1 := M2.out.cell 3 1 rfl rfl; have m2 := M2.out.cell 3 2 rfl rfl; have m3 := M2.out.cell 3 3 rfl rfl; have m4 := M2.out.cell 3 4 rfl rfl
  have o0 := M2.out.cell 2 0 rfl rfl; have o1 := M2.out.cell 2 1 rfl rfl; have o2 := M2.out.cell 2 2 rfl rfl; have o3 := M2.out.cell 2 3 rfl rfl; have o4 := M2.out.cell 2 4 rfl rfl
  go_upto_region 8 with fail
  have M3 := Lib.hid (M2.out.set 4 2 (.int .i64 1) rfl)
  simp only [List.set_cons_succ, List.set_cons_zero] at M3
  generalize v2.setCell ⟨sb, 2, none⟩ (.int .i64 1) = v3 at *
  clear s0 s1 s2 s3 s4 sf0 sf1 sf2 sf3 sf4 m0 m1 m2 m3 m4 o0 o1 o2 o3 o4
  have s0 := M3.out.cell 4 0 rfl rfl; have s1 := M3.out.cell 4 1 rfl rfl; have s2 := M3.out.cell 4 2 rfl rfl; have s3 := M3.out.cell 4 3 rfl rfl; have s4 := M3.out.cell 4 4 rfl rfl
  have k0 := M3.out.cell 1 0 rfl rfl; have k1 := M3.out.cell 1 1 rfl rfl
  have kf0 := M3.out.free 1 0 rfl; have kf1 := M3.out.free 1 1 rfl
  have r0 := M3.out.cell 0 0 rfl rfl; have r1 := M3.out.cell 0 1 rfl rfl; have r2 := M3.out.cell 0 2 rfl rfl; have r3 := M3.out.cell 0 3 rfl rfl; have r4 := M3.out.cell 0 4 rfl rfl
  have rf0 := M3.out.free 0 0 rfl; have rf1 := M3.out.free 0 1 rfl; have rf2 := M3.out.free 0 2 rfl; have rf3 := M3.out.free 0 3 rfl; have rf4 := M3.out.free 0 4 rfl
  go_region
  go_wp2
  have M4 := Lib.hid (Own.drew ((((((((M3.out.set 1 0 (.int .i64 3) rfl).set 1 1 (.int .i64 0) rfl)).set 0 0 (.int .i64 i) rfl).set 0 1 (.int .i64 (mT f i t)) rfl).set 0 2 (.int .i64 1) rfl).set 0 3 (.int .i64 (mP f i p q)) rfl).set 0 4 (.int .i64 (mL f i l)) rfl))
  simp only [List.set_cons_succ, List.set_cons_zero] at M4
  generalize World.drew (((((((((v3).setCell ⟨kb, 0, none⟩ (.int .i64 3)).setCell ⟨kb, 1, none⟩ (.int .i64 0))).setCell ⟨rb, 0, none⟩ (.int .i64 i)).setCell ⟨rb, 1, none⟩ (.int .i64 (mT f i t))).setCell ⟨rb, 2, none⟩ (.int .i64 1)).setCell ⟨rb, 3, none⟩ (.int .i64 (mP f i p q))).setCell ⟨rb, 4, none⟩ (.int .i64 (mL f i l))) = v4 at *
  clear s0 s1 s2 s3 s4 k0 k1 kf0 kf1 r0 r1 r2 r3 r4 rf0 rf1 rf2 rf3 rf4
  have k0 := M4.out.cell 1 0 rfl rfl; have k1 := M4.out.cell 1 1 rfl rfl
  have r0 := M4.out.cell 0 0 rfl rfl; have r1 := M4.out.cell 0 1 rfl rfl; have r2 := M4.out.cell 0 2 rfl rfl; have r3 := M4.out.cell 0 3 rfl rfl; have r4 := M4.out.cell 0 4 rfl rfl
  refine bodyPost_ret (v := .tuple #[.agg #[.int .i64 3, .int .i64 0], .agg #[.int .i64 i, .int .i64 (mT f i t), .int .i64 1, .int .i64 (mP f i p q), .int .i64 (mL f i l)]]) ?_ rfl ⟨rfl, M4.out.grow⟩
  simp [results, Try.results8, go_sem, *]

theorem decide_early (f t y p l mi ms mp mq : Int) (mb : Bool) (i st pr q : Int) (b : Bool) (d n : Int) (lo : -9223372036854775808 ≤ t) (hn : 0 ≤ n) (hn2 : n ≤ 1000) (h : ¬ ms < st) (h3 : mT f i t ≤ 3) (w : World) :
    Calls Try.prog 8 #[.agg #[], .agg #[.int .i64 f, .int .i64 t, .int .i64 y, .int .i64 p, .int .i64 l], .agg #[.int .i64 mi, .int .i64 ms, .int .i64 mp, .int .i64 mq, .bool mb], .agg #[.int .i64 i, .int .i64 st, .int .i64 pr, .int .i64 q, .bool b], .int .i64 d, .int .i64 n] w fun e w' => e = .returned (.tuple #[.agg #[.int .i64 2, .int .i64 (steps (n / 4 + 1) n)], .agg #[.int .i64 i, .int .i64 (mT f i t), .int .i64 y, .int .i64 (mP f i p q), .int .i64 (mL f i l)]]) ∧ Hid (w.grownBy w' none) := by
  have hd : decide (ms < st) = false := by simpa using h
  have hd3 : decide (mT f i t ≤ 3) = true := by simpa using h3
  have hq : n.tdiv 4 = n / 4 := Int.tdiv_eq_ediv_of_nonneg hn
  have hq1 : 0 ≤ n / 4 := by omega
  have hq2 : n / 4 ≤ 250 := by omega
  have HQ := Lib.hid (show IntKind.i64.wrap (IntKind.i64.wrap (n.tdiv 4) + 1) = n / 4 + 1 by rw [hq, IntWalk.i64_in (n / 4) (by omega), IntWalk.i64_in (n / 4 + 1) (by omega)])
  clear hq hq1 hq2
  clear h h3
  go_enter Try.func8, Try.ntmps8
  go_wp2_with fail
  refine (met_any f t y p l i st pr q b lo _).mono ?_
  rintro e v1 ⟨rfl, g⟩
  have M1 := Lib.hid (((((((Own.start w).skip _).alloc _ _).alloc _ _).alloc _ _).alloc _ _).alloc _ _ |>.grown g.out)
  simp only [size_alloc] at M1
  obtain ⟨e1, e1'⟩ := M1.out.ne' 1 4 rfl rfl (by decide)
  obtain ⟨e2, e2'⟩ := M1.out.ne' 0 4 rfl rfl (by decide)
  obtain ⟨e3, e3'⟩ := M1.out.ne' 0 1 rfl rfl (by decide)
  have s0 := M1.out.cell 4 0 rfl rfl; have s1 := M1.out.cell 4 1 rfl rfl; have s2 := M1.out.cell 4 2 rfl rfl; have s3 := M1.out.cell 4 3 rfl rfl; have s4 := M1.out.cell 4 4 rfl rfl
  have sf0 := M1.out.free 4 0 rfl; have sf1 := M1.out.free 4 1 rfl; have sf2 := M1.out.free 4 2 rfl; have sf3 := M1.out.free 4 3 rfl; have sf4 := M1.out.free 4 4 rfl
  go_upto_region 2 with fail
  generalize w.heap.size + 1 = sb at *
  generalize sb + 1 = mb1 at *
  generalize mb1 + 1 = fb at *
  generalize fb + 1 = kb at *
  generalize kb + 1 = rb at *
  have M2 := Lib.hid (((((M1.out.set 4 0 (.int .i64 i) rfl).set 4 1 (.int .i64 (mT f i t)) rfl).set 4 2 (.int .i64 y) rfl).set 4 3 (.int .i64 (mP f i p q)) rfl).set 4 4 (.int .i64 (mL f i l)) rfl)
  simp only [List.set_cons_succ, List.set_cons_zero] at M2
  generalize ((((((v1).setCell ⟨sb, 0, none⟩ (.int .i64 i)).setCell ⟨sb, 1, none⟩ (.int .i64 (mT f i t))).setCell ⟨sb, 2, none⟩ (.int .i64 y)).setCell ⟨sb, 3, none⟩ (.int .i64 (mP f i p q))).setCell ⟨sb, 4, none⟩ (.int .i64 (mL f i l))) = v2 at *
  clear s0 s1 s2 s3 s4 sf0 sf1 sf2 sf3 sf4
  have s0 := M2.out.cell 4 0 rfl rfl; have s1 := M2.out.cell 4 1 rfl rfl; have s2 := M2.out.cell 4 2 rfl rfl; have s3 := M2.out.cell 4 3 rfl rfl; have s4 := M2.out.cell 4 4 rfl rfl
  have m0 := M2.out.cell 3 0 rfl rfl; have m1 := M2.out.cell 3 1 rfl rfl; have m2 := M2.out.cell 3 2 rfl rfl; have m3 := M2.out.cell 3 3 rfl rfl; have m4 := M2.out.cell 3 4 rfl rfl
  have o0 := M2.out.cell 2 0 rfl rfl; have o1 := M2.out.cell 2 1 rfl rfl; have o2 := M2.out.cell 2 2 rfl rfl; have o3 := M2.out.cell 2 3 rfl rfl; have o4 := M2.out.cell 2 4 rfl rfl
  have k0 := M2.out.cell 1 0 rfl rfl; have k1 := M2.out.cell 1 1 rfl rfl
  have kf0 := M2.out.free 1 0 rfl; have kf1 := M2.out.free 1 1 rfl
  have r0 := M2.out.cell 0 0 rfl rfl; have r1 := M2.out.cell 0 1 rfl rfl; have r2 := M2.out.cell 0 2 rfl rfl; have r3 := M2.out.cell 0 3 rfl rfl; have r4 := M2.out.cell 0 4 rfl rfl
  have rf0 := M2.out.free 0 0 rfl; have rf1 := M2.out.free 0 1 rfl; have rf2 := M2.out.free 0 2 rfl; have rf3 := M2.out.free 0 3 rfl; have rf4 := M2.out.free 0 4 rfl
  go_wp2
  go_region_held3 (fun w' => w'.cell? ⟨sb, 0, none⟩ = some (.int .i64 i) ∧ w'.cell? ⟨sb, 1, none⟩ = some (.int .i64 (mT f i t)) ∧ w'.cell? ⟨sb, 2, none⟩ = some (.int .i64 y) ∧ w'.cell? ⟨sb, 3, none⟩ = some (.int .i64 (mP f i p q)) ∧ w'.cell? ⟨sb, 4, none⟩ = some (.int .i64 (mL f i l))) (go_keep) ((go_at_call 16; refine (for_any _ n _).mono ?_; rintro e v3 ⟨rfl, g3⟩; rw [HQ.out]; have M3 := Lib.hid (M2.out.grown (gb_trans (by repeat (first | exact gb_refl _ _ | refine gb_drewN ?_ _ | refine gb_drew ?_ | refine gb_alloc ?_ _)) g3.out)); have c0 := M3.out.cell 4 0 rfl rfl; have c1 := M3.out.cell 4 1 rfl rfl; have c2 := M3.out.cell 4 2 rfl rfl; have c3 := M3.out.cell 4 3 rfl rfl; have c4 := M3.out.cell 4 4 rfl rfl; have kc0 := M3.out.cell 1 0 rfl rfl; have kc1 := M3.out.cell 1 1 rfl rfl; have kg0 := M3.out.free 1 0 rfl; have kg1 := M3.out.free 1 1 rfl; have rc0 := M3.out.cell 0 0 rfl rfl; have rc1 := M3.out.cell 0 1 rfl rfl; have rc2 := M3.out.cell 0 2 rfl rfl; have rc3 := M3.out.cell 0 3 rfl rfl; have rc4 := M3.out.cell 0 4 rfl rfl; have rg0 := M3.out.free 0 0 rfl; have rg1 := M3.out.free 0 1 rfl; have rg2 := M3.out.free 0 2 rfl; have rg3 := M3.out.free 0 3 rfl; have rg4 := M3.out.free 0 4 rfl))
  go_wp2
  have M4 := Lib.hid ((((((((M3.out.set 1 0 (.int .i64 2) rfl).set 1 1 (.int .i64 (steps (n / 4 + 1) n)) rfl)).set 0 0 (.int .i64 i) rfl).set 0 1 (.int .i64 (mT f i t)) rfl).set 0 2 (.int .i64 y) rfl).set 0 3 (.int .i64 (mP f i p q)) rfl).set 0 4 (.int .i64 (mL f i l)) rfl)
  simp only [List.set_cons_succ, List.set_cons_zero] at M4
  generalize (((((((((v3).setCell ⟨kb, 0, none⟩ (.int .i64 2)).setCell ⟨kb, 1, none⟩ (.int .i64 (steps (n / 4 + 1) n)))).setCell ⟨rb, 0, none⟩ (.int .i64 i)).setCell ⟨rb, 1, none⟩ (.int .i64 (mT f i t))).setCell ⟨rb, 2, none⟩ (.int .i64 y)).setCell ⟨rb, 3, none⟩ (.int .i64 (mP f i p q))).setCell ⟨rb, 4, none⟩ (.int .i64 (mL f i l))) = v4 at *
  clear s0 s1 s2 s3 s4 k0 k1 kf0 kf1 r0 r1 r2 r3 r4 rf0 rf1 rf2 rf3 rf4 c0 c1 c2 c3 c4 kc0 kc1 kg0 kg1 rc0 rc1 rc2 rc3 rc4 rg0 rg1 rg2 rg3 rg4
  have k0 := M4.out.cell 1 0 rfl rfl; have k1 := M4.out.cell 1 1 rfl rfl
  have r0 := M4.out.cell 0 0 rfl rfl; have r1 := M4.out.cell 0 1 rfl rfl; have r2 := M4.out.cell 0 2 rfl rfl; have r3 := M4.out.cell 0 3 rfl rfl; have r4 := M4.out.cell 0 4 rfl rfl
  refine bodyPost_ret (v := .tuple #[.agg #[.int .i64 2, .int .i64 (steps (n / 4 + 1) n)], .agg #[.int .i64 i, .int .i64 (mT f i t), .int .i64 y, .int .i64 (mP f i p q), .int .i64 (mL f i l)]]) ?_ rfl ⟨rfl, M4.out.grow⟩
  simp [results, Try.results8, go_sem, *]

theorem decide_any (f t y p l mi ms mp mq : Int) (mb : Bool) (i st pr q : Int) (b : Bool) (d n : Int) (lo : -9223372036854775808 ≤ t) (hn : 0 ≤ n) (hn2 : n ≤ 1000) (w : World) :
    Calls Try.prog 8 #[.agg #[], .agg #[.int .i64 f, .int .i64 t, .int .i64 y, .int .i64 p, .int .i64 l], .agg #[.int .i64 mi, .int .i64 ms, .int .i64 mp, .int .i64 mq, .bool mb], .agg #[.int .i64 i, .int .i64 st, .int .i64 pr, .int .i64 q, .bool b], .int .i64 d, .int .i64 n] w fun e w' => e = .returned (.tuple #[.agg #[.int .i64 (dK ms st (mT f i t) y), .int .i64 (dN ms st (mT f i t) n)], .agg #[.int .i64 i, .int .i64 (mT f i t), .int .i64 (dY ms st (mT f i t) y), .int .i64 (mP f i p q), .int .i64 (mL f i l)]]) ∧ Hid (w.grownBy w' none) := by
  by_cases h : ms < st
  · rw [show dK ms st (mT f i t) y = 1 by simp [dK, h], show dN ms st (mT f i t) n = 0 by simp [dN, h], show dY ms st (mT f i t) y = y by simp [dY, h]]
    exact decide_late f t y p l mi ms mp mq mb i st pr q b d n lo hn hn2 (.inl h) w
  by_cases h3 : mT f i t ≤ 3
  · rw [show dK ms st (mT f i t) y = 2 by unfold dK; rw [if_neg h, if_pos h3], show dN ms st (mT f i t) n = steps (n / 4 + 1) n by unfold dN; rw [if_neg (by omega)], show dY ms st (mT f i t) y = y by unfold dY; rw [if_neg (by omega)]]
    exact decide_early f t y p l mi ms mp mq mb i st pr q b d n lo hn hn2 h h3 w
  rw [show dN ms st (mT f i t) n = 0 by unfold dN; rw [if_pos (by omega)]]
  by_cases h4 : mT f i t = 4
  · by_cases h5 : y = 0
    · rw [show dK ms st (mT f i t) y = 3 by unfold dK; rw [if_neg h, if_neg h3, if_pos ⟨h4, h5⟩], show dY ms st (mT f i t) y = 1 by unfold dY; rw [if_pos ⟨h, h4, h5⟩]]
      exact decide_gives f t y p l mi ms mp mq mb i st pr q b d n lo hn hn2 h h3 h4 h5 w
    · rw [show dK ms st (mT f i t) y = 1 by unfold dK; rw [if_neg h, if_neg h3, if_neg (fun x => h5 x.2)], show dY ms st (mT f i t) y = y by unfold dY; rw [if_neg (fun x => h5 x.2.2)]]
      exact decide_late f t y p l mi ms mp mq mb i st pr q b d n lo hn hn2 (.inr (.inr ⟨h, h3, h4, h5⟩)) w
  · rw [show dK ms st (mT f i t) y = 1 by unfold dK; rw [if_neg h, if_neg h3, if_neg (fun x => h4 x.1)], show dY ms st (mT f i t) y = y by unfold dY; rw [if_neg (fun x => h4 x.2.1)]]
    exact decide_late f t y p l mi ms mp mq mb i st pr q b d n lo hn hn2 (.inr (.inl ⟨h, h3, h4⟩)) w

theorem refdecide_late (s : Nat) (f t y p l mi ms mp mq : Int) (mb : Bool) (i st pr q : Int) (b : Bool) (d n : Int) (lo : -9223372036854775808 ≤ t) (hn : 0 ≤ n) (hn2 : n ≤ 1000) (h : ms < st ∨ (¬ ms < st ∧ ¬ mT f i t ≤ 3 ∧ ¬ mT f i t = 4) ∨ (¬ ms < st ∧ ¬ mT f i t ≤ 3 ∧ mT f i t = 4 ∧ ¬ y = 0)) (w : World) (hs : RS w s f t y p l) :
    Calls Try.prog 10 #[.pointer (some ⟨s, 0, none⟩), .agg #[.int .i64 mi, .int .i64 ms, .int .i64 mp, .int .i64 mq, .bool mb], .agg #[.int .i64 i, .int .i64 st, .int .i64 pr, .int .i64 q, .bool b], .int .i64 d, .int .i64 n] w fun e w' => e = .returned (.tuple #[.int .i64 (1), .int .i64 (0)]) ∧ Hid (RS w' s i (mT f i t) (y) (mP f i p q) (mL f i l)) ∧ Hid (w.grownBy w' (some s)) := by
  rcases h with h | ⟨h, h3, h4⟩ | ⟨h, h3, h4, h5⟩
  all_goals
    first | (have hd : decide (ms < st) = true := by simpa using h) | (have hd : decide (ms < st) = false := by simpa using h)
    first | (have hd3 : decide (mT f i t ≤ 3) = false := by simpa using h3) | skip
    first | (have hd4 : (mT f i t == 4) = true := by simpa using h4) | (have hd4 : (mT f i t == 4) = false := by simpa using h4) | skip
    first | (have hd5 : (y == 0) = false := by simpa using h5) | skip
    clear h
    first | clear h3 | skip
    first | clear h4 | skip
    first | clear h5 | skip
    have H := Lib.hid hs
    have hl := hs.lt
    clear hs
    go_enter Try.func10, Try.ntmps10
    go_wp2_with fail
    refine (refmet_any s f t y p l i q lo _ ((H.out.alloc _).alloc _)).mono ?_
    rintro e v1 ⟨rfl, V, g⟩
    have G := Lib.hid (gb_trans (gb_alloc (gb_alloc (gb_refl w (some s)) _) _) g.out)
    have m1 := (((Blk.made w 38 #[.int .i64 mi, .int .i64 ms, .int .i64 mp, .int .i64 mq, .bool mb]).alloc _).grown g.out (by simp; omega)).cell 1
    have o1 := ((Blk.made (w.alloc (.cells #[.int .i64 mi, .int .i64 ms, .int .i64 mp, .int .i64 mq, .bool mb] 38)) 38 #[.int .i64 i, .int .i64 st, .int .i64 pr, .int .i64 q, .bool b]).grown g.out (by simp; omega)).cell 1
    simp only [size_alloc] at o1
    clear g
    have c0 := V.out.at 0 rfl; have c1 := V.out.at 1 rfl; have c2 := V.out.at 2 rfl; have c3 := V.out.at 3 rfl; have c4 := V.out.at 4 rfl
    have hl1 := V.out.lt
    go_wp2
    go_ret2
    exact ⟨rfl, V.out, G.out⟩

theorem refdecide_gives (s : Nat) (f t y p l mi ms mp mq : Int) (mb : Bool) (i st pr q : Int) (b : Bool) (d n : Int) (lo : -9223372036854775808 ≤ t) (hn : 0 ≤ n) (hn2 : n ≤ 1000) (h : ¬ ms < st) (h3 : ¬ mT f i t ≤ 3) (h4 : mT f i t = 4) (h5 : y = 0) (w : World) (hs : RS w s f t y p l) :
    Calls Try.prog 10 #[.pointer (some ⟨s, 0, none⟩), .agg #[.int .i64 mi, .int .i64 ms, .int .i64 mp, .int .i64 mq, .bool mb], .agg #[.int .i64 i, .int .i64 st, .int .i64 pr, .int .i64 q, .bool b], .int .i64 d, .int .i64 n] w fun e w' => e = .returned (.tuple #[.int .i64 (3), .int .i64 (0)]) ∧ Hid (RS w' s i (mT f i t) (1) (mP f i p q) (mL f i l)) ∧ Hid (w.grownBy w' (some s)) := by
  have hd : decide (ms < st) = false := by simpa using h
  have hd3 : decide (mT f i t ≤ 3) = false := by simpa using h3
  have hd4 : (mT f i t == 4) = true := by simpa using h4
  subst h5
  clear h h3 h4
  have H := Lib.hid hs
  have hl := hs.lt
  clear hs
  go_enter Try.func10, Try.ntmps10
  go_wp2_with fail
  refine (refmet_any s f t 0 p l i q lo _ ((H.out.alloc _).alloc _)).mono ?_
  rintro e v1 ⟨rfl, V, g⟩
  have G := Lib.hid (gb_trans (gb_alloc (gb_alloc (gb_refl w (some s)) _) _) g.out)
  have m1 := (((Blk.made w 38 #[.int .i64 mi, .int .i64 ms, .int .i64 mp, .int .i64 mq, .bool mb]).alloc _).grown g.out (by simp; omega)).cell 1
  have o1 := ((Blk.made (w.alloc (.cells #[.int .i64 mi, .int .i64 ms, .int .i64 mp, .int .i64 mq, .bool mb] 38)) 38 #[.int .i64 i, .int .i64 st, .int .i64 pr, .int .i64 q, .bool b]).grown g.out (by simp; omega)).cell 1
  simp only [size_alloc] at o1
  clear g
  have c0 := V.out.at 0 rfl; have c1 := V.out.at 1 rfl; have c2 := V.out.at 2 rfl; have c3 := V.out.at 3 rfl; have c4 := V.out.at 4 rfl
  have cf0 := V.out.free 0; have cf1 := V.out.free 1; have cf2 := V.out.free 2; have cf3 := V.out.free 3; have cf4 := V.out.free 4
  have hl1 := V.out.lt
  go_wp2
  go_ret2
  exact ⟨rfl, V.out.set 2 _, gb_setB G.out _⟩

/-- Rounds of the document's count: four of them are one more. -/
def Cnt (w : World) (n : Int) (iv : Value) (wr : World) : Prop := ∃ k : Int, iv = .int .i64 k ∧ wr = w ∧ 1 ≤ k ∧ k ≤ n / 4 + 1

theorem refdecide_early (s : Nat) (f t y p l mi ms mp mq : Int) (mb : Bool) (i st pr q : Int) (b : Bool) (d n : Int) (lo : -9223372036854775808 ≤ t) (hn : 0 ≤ n) (hn2 : n ≤ 1000) (h : ¬ ms < st) (h3 : mT f i t ≤ 3) (w : World) (hs : RS w s f t y p l) :
    Calls Try.prog 10 #[.pointer (some ⟨s, 0, none⟩), .agg #[.int .i64 mi, .int .i64 ms, .int .i64 mp, .int .i64 mq, .bool mb], .agg #[.int .i64 i, .int .i64 st, .int .i64 pr, .int .i64 q, .bool b], .int .i64 d, .int .i64 n] w fun e w' => e = .returned (.tuple #[.int .i64 (2), .int .i64 (steps (n / 4 + 1) n)]) ∧ Hid (RS w' s i (mT f i t) (y) (mP f i p q) (mL f i l)) ∧ Hid (w.grownBy w' (some s)) := by
  have hd : decide (ms < st) = false := by simpa using h
  have hd3 : decide (mT f i t ≤ 3) = true := by simpa using h3
  have hN := Lib.hid hn
  have hN2 := Lib.hid hn2
  clear h h3 hn hn2
  have H := Lib.hid hs
  have hl := hs.lt
  clear hs
  go_enter Try.func10, Try.ntmps10
  go_wp2_with fail
  refine (refmet_any s f t y p l i q lo _ ((H.out.alloc _).alloc _)).mono ?_
  rintro e v1 ⟨rfl, V, g⟩
  have G := Lib.hid (gb_trans (gb_alloc (gb_alloc (gb_refl w (some s)) _) _) g.out)
  have m1 := (((Blk.made w 38 #[.int .i64 mi, .int .i64 ms, .int .i64 mp, .int .i64 mq, .bool mb]).alloc _).grown g.out (by simp; omega)).cell 1
  have o1 := ((Blk.made (w.alloc (.cells #[.int .i64 mi, .int .i64 ms, .int .i64 mp, .int .i64 mq, .bool mb] 38)) 38 #[.int .i64 i, .int .i64 st, .int .i64 pr, .int .i64 q, .bool b]).grown g.out (by simp; omega)).cell 1
  simp only [size_alloc] at o1
  clear g
  have c0 := V.out.at 0 rfl; have c1 := V.out.at 1 rfl; have c2 := V.out.at 2 rfl; have c3 := V.out.at 3 rfl; have c4 := V.out.at 4 rfl
  have hl1 := V.out.lt
  go_wp2
  go_loopw [12] (fun iv wr => Cnt v1 n iv wr) (fun iv _ => (n / 4 + 1 - intOf iv).toNat)
  case atStart => exact ⟨1, rfl, rfl, by omega, by have := hN.out; omega⟩
  case round =>
    obtain ⟨k, rfl, rfl, hk1, hk2⟩ := hrel
    have hn := hN.out
    have hn2 := hN2.out
    by_cases hlt : k * 4 ≤ n
    · go_wp2
      go_roundw
      case rel => exact ⟨k + 1, by go_num, rfl, by omega, by omega⟩
      case measure => simp [intOf]; omega
    · have e1 := Lib.hid (show k = n / 4 + 1 by omega)
      go_wp2_with fail
      refine (refsteps_any k n _).mono ?_
      rintro e v2 ⟨rfl, rfl⟩
      rw [e1.out]
      go_wp2
      go_ret2
      exact ⟨rfl, V.out, G.out⟩

theorem refdecide_any (s : Nat) (f t y p l mi ms mp mq : Int) (mb : Bool) (i st pr q : Int) (b : Bool) (d n : Int) (lo : -9223372036854775808 ≤ t) (hn : 0 ≤ n) (hn2 : n ≤ 1000) (w : World) (hs : RS w s f t y p l) :
    Calls Try.prog 10 #[.pointer (some ⟨s, 0, none⟩), .agg #[.int .i64 mi, .int .i64 ms, .int .i64 mp, .int .i64 mq, .bool mb], .agg #[.int .i64 i, .int .i64 st, .int .i64 pr, .int .i64 q, .bool b], .int .i64 d, .int .i64 n] w fun e w' => e = .returned (.tuple #[.int .i64 (dK ms st (mT f i t) y), .int .i64 (dN ms st (mT f i t) n)]) ∧ Hid (RS w' s i (mT f i t) (dY ms st (mT f i t) y) (mP f i p q) (mL f i l)) ∧ Hid (w.grownBy w' (some s)) := by
  by_cases h : ms < st
  · rw [show dK ms st (mT f i t) y = 1 by simp [dK, h], show dN ms st (mT f i t) n = 0 by simp [dN, h], show dY ms st (mT f i t) y = y by simp [dY, h]]
    exact refdecide_late s f t y p l mi ms mp mq mb i st pr q b d n lo hn hn2 (.inl h) w hs
  by_cases h3 : mT f i t ≤ 3
  · rw [show dK ms st (mT f i t) y = 2 by unfold dK; rw [if_neg h, if_pos h3], show dN ms st (mT f i t) n = steps (n / 4 + 1) n by unfold dN; rw [if_neg (by omega)], show dY ms st (mT f i t) y = y by unfold dY; rw [if_neg (by omega)]]
    exact refdecide_early s f t y p l mi ms mp mq mb i st pr q b d n lo hn hn2 h h3 w hs
  rw [show dN ms st (mT f i t) n = 0 by unfold dN; rw [if_pos (by omega)]]
  by_cases h4 : mT f i t = 4
  · by_cases h5 : y = 0
    · rw [show dK ms st (mT f i t) y = 3 by unfold dK; rw [if_neg h, if_neg h3, if_pos ⟨h4, h5⟩], show dY ms st (mT f i t) y = 1 by unfold dY; rw [if_pos ⟨h, h4, h5⟩]]
      exact refdecide_gives s f t y p l mi ms mp mq mb i st pr q b d n lo hn hn2 h h3 h4 h5 w hs
    · rw [show dK ms st (mT f i t) y = 1 by unfold dK; rw [if_neg h, if_neg h3, if_neg (fun x => h5 x.2)], show dY ms st (mT f i t) y = y by unfold dY; rw [if_neg (fun x => h5 x.2.2)]]
      exact refdecide_late s f t y p l mi ms mp mq mb i st pr q b d n lo hn hn2 (.inr (.inr ⟨h, h3, h4, h5⟩)) w hs
  · rw [show dK ms st (mT f i t) y = 1 by unfold dK; rw [if_neg h, if_neg h3, if_neg (fun x => h4 x.1)], show dY ms st (mT f i t) y = y by unfold dY; rw [if_neg (fun x => h4 x.2.1)]]
    exact refdecide_late s f t y p l mi ms mp mq mb i st pr q b d n lo hn hn2 (.inr (.inl ⟨h, h3, h4⟩)) w hs

/-- The first decision of a transaction. -/
theorem decide_new (mi ms mp mq : Int) (mb : Bool) (i st pr q : Int) (b : Bool) (d n : Int) (hi : 0 ≤ i) (hn : 0 ≤ n) (hn2 : n ≤ 1000) (w : World) :
    Calls Try.prog 8 #[.agg #[], .agg #[.int .i64 (-1), .int .i64 0, .int .i64 0, .int .i64 0, .int .i64 0], .agg #[.int .i64 mi, .int .i64 ms, .int .i64 mp, .int .i64 mq, .bool mb], .agg #[.int .i64 i, .int .i64 st, .int .i64 pr, .int .i64 q, .bool b], .int .i64 d, .int .i64 n] w fun e w' => e = .returned (.tuple #[.agg #[.int .i64 (dK ms st 1 0), .int .i64 (dN ms st 1 n)], .agg #[.int .i64 i, .int .i64 1, .int .i64 0, .int .i64 q, .int .i64 0]]) ∧ Hid (w.grownBy w' none) := by
  have e1 : mT (-1) i 0 = 1 := by unfold mT; rw [if_neg (by omega)]
  have e2 : mP (-1) i 0 q = q := by unfold mP; rw [if_neg (by omega)]
  have e3 : mL (-1) i 0 = 0 := by unfold mL; rw [if_neg (by omega)]
  have e4 : dY ms st 1 0 = 0 := by unfold dY; rw [if_neg (by omega)]
  have D := decide_any (-1) 0 0 0 0 mi ms mp mq mb i st pr q b d n (by omega) hn hn2 w
  rw [e1, e2, e3, e4] at D
  exact D

set_option maxHeartbeats 1000000 in
theorem alive_any (w : World) : Calls Try.prog 7 #[] w fun e w' => e = .returned (.bool true) ∧ Hid (w.grownBy w' none) := by
  go_enter Try.func7, Try.ntmps7
  go_upto_region 2 with fail
  have M1 := Lib.hid (((Own.start w).alloc 25 [.int .i64 1, .int .i64 5, .int .i64 0, .int .i64 0, .bool false]).alloc 25 [.int .i64 2, .int .i64 3, .int .i64 0, .int .i64 0, .bool false])
  simp only [size_alloc] at M1
  generalize (w.alloc (.cells #[.int .i64 1, .int .i64 5, .int .i64 0, .int .i64 0, .bool false] 25)).alloc (.cells #[.int .i64 2, .int .i64 3, .int .i64 0, .int .i64 0, .bool false] 25) = v1 at *
  go_cut [3, 4] (fun dv xv wc => Mid w 2 3 [.int .i64 2, .int .i64 1, .int .i64 0, .int .i64 0, .int .i64 0] [(w.heap.size + 1, 25, [.int .i64 2, .int .i64 3, .int .i64 0, .int .i64 0, .bool false]), (w.heap.size, 25, [.int .i64 1, .int .i64 5, .int .i64 0, .int .i64 0, .bool false])] dv xv wc)
  case first =>
    have zo0 := M1.out.cell 0 0 rfl rfl; have zo1 := M1.out.cell 0 1 rfl rfl; have zo2 := M1.out.cell 0 2 rfl rfl; have zo3 := M1.out.cell 0 3 rfl rfl; have zo4 := M1.out.cell 0 4 rfl rfl; have zm0 := M1.out.cell 1 0 rfl rfl; have zm1 := M1.out.cell 1 1 rfl rfl; have zm2 := M1.out.cell 1 2 rfl rfl; have zm3 := M1.out.cell 1 3 rfl rfl; have zm4 := M1.out.cell 1 4 rfl rfl; have ze1 := World.new_ne v1 _ zo0; have ze2 := World.new_ne v1 _ zm0; have ze5 := new_ne1 v1 _ zo0; have ze6 := new_ne1 v1 _ zm0
    have D := fun u => decide_new 1 5 0 0 false 2 3 0 0 false 0 8 (by omega) (by omega) (by omega) u
    rw [show dK 5 3 1 0 = 2 by decide, show dN 5 3 1 8 = 3 by decide] at D
    have HD := Lib.hid D
    clear D
    go_region_held3 (fun w' => w'.cell? ⟨w.heap.size, 0, none⟩ = some (.int .i64 1) ∧ w'.cell? ⟨w.heap.size, 1, none⟩ = some (.int .i64 5) ∧ w'.cell? ⟨w.heap.size, 2, none⟩ = some (.int .i64 0) ∧ w'.cell? ⟨w.heap.size, 3, none⟩ = some (.int .i64 0) ∧ w'.cell? ⟨w.heap.size, 4, none⟩ = some (.bool false) ∧ w'.cell? ⟨w.heap.size + 1, 0, none⟩ = some (.int .i64 2) ∧ w'.cell? ⟨w.heap.size + 1, 1, none⟩ = some (.int .i64 3) ∧ w'.cell? ⟨w.heap.size + 1, 2, none⟩ = some (.int .i64 0) ∧ w'.cell? ⟨w.heap.size + 1, 3, none⟩ = some (.int .i64 0) ∧ w'.cell? ⟨w.heap.size + 1, 4, none⟩ = some (.bool false)) (go_keep) (first | (go_at_call 12; refine (fresh_any _).mono ?_; rintro e v4 ⟨rfl, g4⟩; (first | (have M4 := Lib.hid ((((M1.out.alloc _ _).alloc _ _).drew).grown g4.out)) | (have M4 := Lib.hid (((M1.out.alloc _ _).drew).grown g4.out)) | (have M4 := Lib.hid ((M1.out.drew).grown g4.out))); (try simp only [size_alloc] at M4); clear g4; (first | (have px0 := M4.out.cell 0 0 rfl rfl; have px1 := M4.out.cell 0 1 rfl rfl; have px2 := M4.out.cell 0 2 rfl rfl; have px3 := M4.out.cell 0 3 rfl rfl; have px4 := M4.out.cell 0 4 rfl rfl; have pxf0 := M4.out.free 0 0 rfl; have pxf1 := M4.out.free 0 1 rfl; have pxf2 := M4.out.free 0 2 rfl; have pxf3 := M4.out.free 0 3 rfl; have pxf4 := M4.out.free 0 4 rfl; have pe3 := World.new_ne v4 _ px0; have pe7 := new_ne1 v4 _ px0; have py0 := M4.out.cell 1 0 rfl rfl; have py1 := M4.out.cell 1 1 rfl rfl; have pyf0 := M4.out.free 1 0 rfl; have pyf1 := M4.out.free 1 1 rfl; have pe4 := World.new_ne v4 _ py0; have pe8 := new_ne1 v4 _ py0; have pb0 := M4.out.lt 0 rfl; have pb1 := M4.out.lt 1 rfl; have po0 := M4.out.cell 2 0 rfl rfl; have po1 := M4.out.cell 2 1 rfl rfl; have po2 := M4.out.cell 2 2 rfl rfl; have po3 := M4.out.cell 2 3 rfl rfl; have po4 := M4.out.cell 2 4 rfl rfl; have pm0 := M4.out.cell 3 0 rfl rfl; have pm1 := M4.out.cell 3 1 rfl rfl; have pm2 := M4.out.cell 3 2 rfl rfl; have pm3 := M4.out.cell 3 3 rfl rfl; have pm4 := M4.out.cell 3 4 rfl rfl; have pe1 := World.new_ne v4 _ po0; have pe2 := World.new_ne v4 _ pm0; have pe5 := new_ne1 v4 _ po0; have pe6 := new_ne1 v4 _ pm0) | (have px0 := M4.out.cell 0 0 rfl rfl; have px1 := M4.out.cell 0 1 rfl rfl; have pxf0 := M4.out.free 0 0 rfl; have pxf1 := M4.out.free 0 1 rfl; have pe3 := World.new_ne v4 _ px0; have pe7 := new_ne1 v4 _ px0; have py0 := M4.out.cell 1 0 rfl rfl; have py1 := M4.out.cell 1 1 rfl rfl; have py2 := M4.out.cell 1 2 rfl rfl; have py3 := M4.out.cell 1 3 rfl rfl; have py4 := M4.out.cell 1 4 rfl rfl; have pyf0 := M4.out.free 1 0 rfl; have pyf1 := M4.out.free 1 1 rfl; have pyf2 := M4.out.free 1 2 rfl; have pyf3 := M4.out.free 1 3 rfl; have pyf4 := M4.out.free 1 4 rfl; have pe4 := World.new_ne v4 _ py0; have pe8 := new_ne1 v4 _ py0; have pb0 := M4.out.lt 0 rfl; have pb1 := M4.out.lt 1 rfl; have po0 := M4.out.cell 2 0 rfl rfl; have po1 := M4.out.cell 2 1 rfl rfl; have po2 := M4.out.cell 2 2 rfl rfl; have po3 := M4.out.cell 2 3 rfl rfl; have po4 := M4.out.cell 2 4 rfl rfl; have pm0 := M4.out.cell 3 0 rfl rfl; have pm1 := M4.out.cell 3 1 rfl rfl; have pm2 := M4.out.cell 3 2 rfl rfl; have pm3 := M4.out.cell 3 3 rfl rfl; have pm4 := M4.out.cell 3 4 rfl rfl; have pe1 := World.new_ne v4 _ po0; have pe2 := World.new_ne v4 _ pm0; have pe5 := new_ne1 v4 _ po0; have pe6 := new_ne1 v4 _ pm0) | (have px0 := M4.out.cell 0 0 rfl rfl; have px1 := M4.out.cell 0 1 rfl rfl; have px2 := M4.out.cell 0 2 rfl rfl; have px3 := M4.out.cell 0 3 rfl rfl; have px4 := M4.out.cell 0 4 rfl rfl; have pxf0 := M4.out.free 0 0 rfl; have pxf1 := M4.out.free 0 1 rfl; have pxf2 := M4.out.free 0 2 rfl; have pxf3 := M4.out.free 0 3 rfl; have pxf4 := M4.out.free 0 4 rfl; have pe3 := World.new_ne v4 _ px0; have pe7 := new_ne1 v4 _ px0; have pb0 := M4.out.lt 0 rfl; have po0 := M4.out.cell 1 0 rfl rfl; have po1 := M4.out.cell 1 1 rfl rfl; have po2 := M4.out.cell 1 2 rfl rfl; have po3 := M4.out.cell 1 3 rfl rfl; have po4 := M4.out.cell 1 4 rfl rfl; have pm0 := M4.out.cell 2 0 rfl rfl; have pm1 := M4.out.cell 2 1 rfl rfl; have pm2 := M4.out.cell 2 2 rfl rfl; have pm3 := M4.out.cell 2 3 rfl rfl; have pm4 := M4.out.cell 2 4 rfl rfl; have pe1 := World.new_ne v4 _ po0; have pe2 := World.new_ne v4 _ pm0; have pe5 := new_ne1 v4 _ po0; have pe6 := new_ne1 v4 _ pm0) | (have px0 := M4.out.cell 0 0 rfl rfl; have px1 := M4.out.cell 0 1 rfl rfl; have pxf0 := M4.out.free 0 0 rfl; have pxf1 := M4.out.free 0 1 rfl; have pe3 := World.new_ne v4 _ px0; have pe7 := new_ne1 v4 _ px0; have pb0 := M4.out.lt 0 rfl; have po0 := M4.out.cell 1 0 rfl rfl; have po1 := M4.out.cell 1 1 rfl rfl; have po2 := M4.out.cell 1 2 rfl rfl; have po3 := M4.out.cell 1 3 rfl rfl; have po4 := M4.out.cell 1 4 rfl rfl; have pm0 := M4.out.cell 2 0 rfl rfl; have pm1 := M4.out.cell 2 1 rfl rfl; have pm2 := M4.out.cell 2 2 rfl rfl; have pm3 := M4.out.cell 2 3 rfl rfl; have pm4 := M4.out.cell 2 4 rfl rfl; have pe1 := World.new_ne v4 _ po0; have pe2 := World.new_ne v4 _ pm0; have pe5 := new_ne1 v4 _ po0; have pe6 := new_ne1 v4 _ pm0) | (have po0 := M4.out.cell 0 0 rfl rfl; have po1 := M4.out.cell 0 1 rfl rfl; have po2 := M4.out.cell 0 2 rfl rfl; have po3 := M4.out.cell 0 3 rfl rfl; have po4 := M4.out.cell 0 4 rfl rfl; have pm0 := M4.out.cell 1 0 rfl rfl; have pm1 := M4.out.cell 1 1 rfl rfl; have pm2 := M4.out.cell 1 2 rfl rfl; have pm3 := M4.out.cell 1 3 rfl rfl; have pm4 := M4.out.cell 1 4 rfl rfl; have pe1 := World.new_ne v4 _ po0; have pe2 := World.new_ne v4 _ pm0; have pe5 := new_ne1 v4 _ po0; have pe6 := new_ne1 v4 _ pm0))) | (go_at_call 8; refine (HD.out _).mono ?_; rintro e v5 ⟨rfl, g5⟩; (first | (have M5 := Lib.hid (((M4.out.alloc _ _).alloc _ _).grown g5.out)) | (have M5 := Lib.hid ((M4.out.alloc _ _).grown g5.out)) | (have M5 := Lib.hid (M4.out.grown g5.out))); (try simp only [size_alloc] at M5); clear g5; (first | (have rx0 := M5.out.cell 0 0 rfl rfl; have rx1 := M5.out.cell 0 1 rfl rfl; have rx2 := M5.out.cell 0 2 rfl rfl; have rx3 := M5.out.cell 0 3 rfl rfl; have rx4 := M5.out.cell 0 4 rfl rfl; have rxf0 := M5.out.free 0 0 rfl; have rxf1 := M5.out.free 0 1 rfl; have rxf2 := M5.out.free 0 2 rfl; have rxf3 := M5.out.free 0 3 rfl; have rxf4 := M5.out.free 0 4 rfl; have re3 := World.new_ne v5 _ rx0; have re7 := new_ne1 v5 _ rx0; have ry0 := M5.out.cell 1 0 rfl rfl; have ry1 := M5.out.cell 1 1 rfl rfl; have ryf0 := M5.out.free 1 0 rfl; have ryf1 := M5.out.free 1 1 rfl; have re4 := World.new_ne v5 _ ry0; have re8 := new_ne1 v5 _ ry0; have rb0 := M5.out.lt 0 rfl; have rb1 := M5.out.lt 1 rfl; have ro0 := M5.out.cell 2 0 rfl rfl; have ro1 := M5.out.cell 2 1 rfl rfl; have ro2 := M5.out.cell 2 2 rfl rfl; have ro3 := M5.out.cell 2 3 rfl rfl; have ro4 := M5.out.cell 2 4 rfl rfl; have rm0 := M5.out.cell 3 0 rfl rfl; have rm1 := M5.out.cell 3 1 rfl rfl; have rm2 := M5.out.cell 3 2 rfl rfl; have rm3 := M5.out.cell 3 3 rfl rfl; have rm4 := M5.out.cell 3 4 rfl rfl; have re1 := World.new_ne v5 _ ro0; have re2 := World.new_ne v5 _ rm0; have re5 := new_ne1 v5 _ ro0; have re6 := new_ne1 v5 _ rm0) | (have rx0 := M5.out.cell 0 0 rfl rfl; have rx1 := M5.out.cell 0 1 rfl rfl; have rxf0 := M5.out.free 0 0 rfl; have rxf1 := M5.out.free 0 1 rfl; have re3 := World.new_ne v5 _ rx0; have re7 := new_ne1 v5 _ rx0; have ry0 := M5.out.cell 1 0 rfl rfl; have ry1 := M5.out.cell 1 1 rfl rfl; have ry2 := M5.out.cell 1 2 rfl rfl; have ry3 := M5.out.cell 1 3 rfl rfl; have ry4 := M5.out.cell 1 4 rfl rfl; have ryf0 := M5.out.free 1 0 rfl; have ryf1 := M5.out.free 1 1 rfl; have ryf2 := M5.out.free 1 2 rfl; have ryf3 := M5.out.free 1 3 rfl; have ryf4 := M5.out.free 1 4 rfl; have re4 := World.new_ne v5 _ ry0; have re8 := new_ne1 v5 _ ry0; have rb0 := M5.out.lt 0 rfl; have rb1 := M5.out.lt 1 rfl; have ro0 := M5.out.cell 2 0 rfl rfl; have ro1 := M5.out.cell 2 1 rfl rfl; have ro2 := M5.out.cell 2 2 rfl rfl; have ro3 := M5.out.cell 2 3 rfl rfl; have ro4 := M5.out.cell 2 4 rfl rfl; have rm0 := M5.out.cell 3 0 rfl rfl; have rm1 := M5.out.cell 3 1 rfl rfl; have rm2 := M5.out.cell 3 2 rfl rfl; have rm3 := M5.out.cell 3 3 rfl rfl; have rm4 := M5.out.cell 3 4 rfl rfl; have re1 := World.new_ne v5 _ ro0; have re2 := World.new_ne v5 _ rm0; have re5 := new_ne1 v5 _ ro0; have re6 := new_ne1 v5 _ rm0) | (have rx0 := M5.out.cell 0 0 rfl rfl; have rx1 := M5.out.cell 0 1 rfl rfl; have rx2 := M5.out.cell 0 2 rfl rfl; have rx3 := M5.out.cell 0 3 rfl rfl; have rx4 := M5.out.cell 0 4 rfl rfl; have rxf0 := M5.out.free 0 0 rfl; have rxf1 := M5.out.free 0 1 rfl; have rxf2 := M5.out.free 0 2 rfl; have rxf3 := M5.out.free 0 3 rfl; have rxf4 := M5.out.free 0 4 rfl; have re3 := World.new_ne v5 _ rx0; have re7 := new_ne1 v5 _ rx0; have rb0 := M5.out.lt 0 rfl; have ro0 := M5.out.cell 1 0 rfl rfl; have ro1 := M5.out.cell 1 1 rfl rfl; have ro2 := M5.out.cell 1 2 rfl rfl; have ro3 := M5.out.cell 1 3 rfl rfl; have ro4 := M5.out.cell 1 4 rfl rfl; have rm0 := M5.out.cell 2 0 rfl rfl; have rm1 := M5.out.cell 2 1 rfl rfl; have rm2 := M5.out.cell 2 2 rfl rfl; have rm3 := M5.out.cell 2 3 rfl rfl; have rm4 := M5.out.cell 2 4 rfl rfl; have re1 := World.new_ne v5 _ ro0; have re2 := World.new_ne v5 _ rm0; have re5 := new_ne1 v5 _ ro0; have re6 := new_ne1 v5 _ rm0) | (have rx0 := M5.out.cell 0 0 rfl rfl; have rx1 := M5.out.cell 0 1 rfl rfl; have rxf0 := M5.out.free 0 0 rfl; have rxf1 := M5.out.free 0 1 rfl; have re3 := World.new_ne v5 _ rx0; have re7 := new_ne1 v5 _ rx0; have rb0 := M5.out.lt 0 rfl; have ro0 := M5.out.cell 1 0 rfl rfl; have ro1 := M5.out.cell 1 1 rfl rfl; have ro2 := M5.out.cell 1 2 rfl rfl; have ro3 := M5.out.cell 1 3 rfl rfl; have ro4 := M5.out.cell 1 4 rfl rfl; have rm0 := M5.out.cell 2 0 rfl rfl; have rm1 := M5.out.cell 2 1 rfl rfl; have rm2 := M5.out.cell 2 2 rfl rfl; have rm3 := M5.out.cell 2 3 rfl rfl; have rm4 := M5.out.cell 2 4 rfl rfl; have re1 := World.new_ne v5 _ ro0; have re2 := World.new_ne v5 _ rm0; have re5 := new_ne1 v5 _ ro0; have re6 := new_ne1 v5 _ rm0) | (have ro0 := M5.out.cell 0 0 rfl rfl; have ro1 := M5.out.cell 0 1 rfl rfl; have ro2 := M5.out.cell 0 2 rfl rfl; have ro3 := M5.out.cell 0 3 rfl rfl; have ro4 := M5.out.cell 0 4 rfl rfl; have rm0 := M5.out.cell 1 0 rfl rfl; have rm1 := M5.out.cell 1 1 rfl rfl; have rm2 := M5.out.cell 1 2 rfl rfl; have rm3 := M5.out.cell 1 3 rfl rfl; have rm4 := M5.out.cell 1 4 rfl rfl; have re1 := World.new_ne v5 _ ro0; have re2 := World.new_ne v5 _ rm0; have re5 := new_ne1 v5 _ ro0; have re6 := new_ne1 v5 _ rm0))))
    all_goals go_wp2
    all_goals go_meet
    all_goals refine ⟨_, _, rfl, rfl, ?_⟩
    all_goals ((try simp only [size_alloc, size_setCell]); first | (have X := (M5.out.alloc 28 [.int .i64 2, .int .i64 3]).alloc 23 [.int .i64 2, .int .i64 1, .int .i64 0, .int .i64 0, .int .i64 0]; (try simp only [size_alloc, size_setCell, List.set_cons_zero, List.set_cons_succ] at X); with_reducible exact X) | (have X := ((M5.out.alloc 23 [.int .i64 2, .int .i64 1, .int .i64 0, .int .i64 0, .int .i64 0]).alloc 28 [.int .i64 2, .int .i64 3]).swap; (try simp only [size_alloc, size_setCell, List.set_cons_zero, List.set_cons_succ] at X); with_reducible exact X) | (have X := Own.alloc ((M5.out.set 0 0 (.int .i64 2) rfl).set 0 1 (.int .i64 3) rfl) 23 [.int .i64 2, .int .i64 1, .int .i64 0, .int .i64 0, .int .i64 0]; (try simp only [size_alloc, size_setCell, List.set_cons_zero, List.set_cons_succ] at X); with_reducible exact X) | (have X := ((((((((M5.out.set 1 0 (.int .i64 2) rfl).set 1 1 (.int .i64 3) rfl)).set 0 0 (.int .i64 2) rfl).set 0 1 (.int .i64 1) rfl).set 0 2 (.int .i64 0) rfl).set 0 3 (.int .i64 0) rfl).set 0 4 (.int .i64 0) rfl); (try simp only [size_alloc, size_setCell, List.set_cons_zero, List.set_cons_succ] at X); with_reducible exact X) | (have X := (Own.alloc (((((M5.out.set 0 0 (.int .i64 2) rfl).set 0 1 (.int .i64 1) rfl).set 0 2 (.int .i64 0) rfl).set 0 3 (.int .i64 0) rfl).set 0 4 (.int .i64 0) rfl) 28 [.int .i64 2, .int .i64 3]).swap; (try simp only [size_alloc, size_setCell, List.set_cons_zero, List.set_cons_succ] at X); with_reducible exact X) | (have X := Own.swap ((((((((M5.out.set 0 0 (.int .i64 2) rfl).set 0 1 (.int .i64 3) rfl)).set 1 0 (.int .i64 2) rfl).set 1 1 (.int .i64 1) rfl).set 1 2 (.int .i64 0) rfl).set 1 3 (.int .i64 0) rfl).set 1 4 (.int .i64 0) rfl); (try simp only [size_alloc, size_setCell, List.set_cons_zero, List.set_cons_succ] at X); with_reducible exact X))
  case rest =>
    obtain ⟨db, xb, rfl, rfl, M0⟩ := hcut
    have M2 := Lib.hid M0
    clear M0 M1
    have x0 := M2.out.cell 0 0 rfl rfl; have x1 := M2.out.cell 0 1 rfl rfl; have x2 := M2.out.cell 0 2 rfl rfl; have x3 := M2.out.cell 0 3 rfl rfl; have x4 := M2.out.cell 0 4 rfl rfl
    have o0 := M2.out.cell 2 0 rfl rfl; have o1 := M2.out.cell 2 1 rfl rfl; have o2 := M2.out.cell 2 2 rfl rfl; have o3 := M2.out.cell 2 3 rfl rfl; have o4 := M2.out.cell 2 4 rfl rfl
    have m0 := M2.out.cell 3 0 rfl rfl; have m1 := M2.out.cell 3 1 rfl rfl; have m2 := M2.out.cell 3 2 rfl rfl; have m3 := M2.out.cell 3 3 rfl rfl; have m4 := M2.out.cell 3 4 rfl rfl
    go_wp2_with fail
    have D := fun u => decide_any 2 3 0 0 0 1 5 0 0 false 2 3 0 0 false 0 8 (by omega) (by omega) (by omega) u
    rw [show mT 2 2 3 = 4 by decide, show dK 5 3 4 0 = 3 by decide, show dN 5 3 4 8 = 0 by decide, show dY 5 3 4 0 = 1 by decide, show mP 2 2 0 0 = 0 by decide, show mL 2 2 0 = 0 by decide] at D
    refine (D _).mono ?_
    clear D
    rintro e v1 ⟨rfl, g⟩
    have M3 := Lib.hid (((M2.out.grown g.out).alloc 28 [.int .i64 3, .int .i64 0]).alloc 23 [.int .i64 2, .int .i64 4, .int .i64 1, .int .i64 0, .int .i64 0])
    simp only [size_alloc] at M3
    clear x0 x1 x2 x3 x4 o0 o1 o2 o3 o4 m0 m1 m2 m3 m4 g
    have k0 := M3.out.cell 1 0 rfl rfl; have k1 := M3.out.cell 1 1 rfl rfl
    have n0 := M3.out.cell 0 0 rfl rfl; have n1 := M3.out.cell 0 1 rfl rfl; have n2 := M3.out.cell 0 2 rfl rfl; have n3 := M3.out.cell 0 3 rfl rfl; have n4 := M3.out.cell 0 4 rfl rfl
    have j0 := M3.out.cell 3 0 rfl rfl; have j1 := M3.out.cell 3 1 rfl rfl
    have x0 := M3.out.cell 2 0 rfl rfl; have x1 := M3.out.cell 2 1 rfl rfl; have x2 := M3.out.cell 2 2 rfl rfl; have x3 := M3.out.cell 2 3 rfl rfl; have x4 := M3.out.cell 2 4 rfl rfl
    go_wp2
    go_ret
    exact ⟨rfl, M3.out.grow⟩

end Go.Proofs.Ytppbbdpdfaemfaa.sta
