/- The contracts of package polite: how long a draw lets wait, and what is decided about a foe; those of the document's own decision (quarrelref06), too. -/
import Derived.Test.YtnaagcofgnmmlaaRef05
import Derived.Test.YtnaagcofgnmmlaaOwnK
import Derived.Test.YtnaagcofgnmmlaaEqCh
namespace Go.Proofs.Ytnaagcofgnmmlaa.pol
open Go Go.RowKit Go.Proofs.Ytnaagcofgnmmlaa.base Go.Proofs.Ytnaagcofgnmmlaa.ch
set_option linter.unusedVariables false

/-- How many steps a draw asks for at a try. -/
def pS (t d : Int) : Int := if t < 1 ∨ d < 0 then 1 else 1 + d % 2 ^ t.toNat
/-- The decision at a try: its kind, and its steps. -/
def dK (t : Int) : Int := if 4 < t then 1 else 2
def dN (t d n : Int) : Int := if 4 < t then 0 else steps (pS t d) n

theorem dOk (t d n : Int) (h : 1 ≤ n) : okB (dK t) (dN t d n) n = true := by
  unfold dK dN
  by_cases h4 : 4 < t
  · simp [h4, okB]
  · simp only [if_neg h4, okB, steps]
    simp
    omega

theorem psteps_any (t d : Int) (ht : t ≤ 4) (w : World) : Calls Try.prog 55 #[.int .i64 t, .int .i64 d] w fun e w' => e = .returned (.int .i64 (pS t d)) ∧ w = w' := by
  by_cases h1 : t < 1
  · have e1 := Lib.hid (show pS t d = 1 by unfold pS; rw [if_pos (.inl h1)])
    go_enter Try.func55, Try.ntmps55
    go_wp2
    go_ret
    exact ⟨by rw [e1.out]; rfl, rfl⟩
  by_cases h2 : d < 0
  · have e1 := Lib.hid (show pS t d = 1 by unfold pS; rw [if_pos (.inr h2)])
    go_enter Try.func55, Try.ntmps55
    go_wp2
    go_ret
    exact ⟨by rw [e1.out]; rfl, rfl⟩
  have ht' : t = 1 ∨ t = 2 ∨ t = 3 ∨ t = 4 := by omega
  rcases ht' with rfl | rfl | rfl | rfl
  all_goals
    go_enter Try.func55, Try.ntmps55
    go_wp2
    go_ret
    exact ⟨by show Ending.returned (.int .i64 (1 + d % _)) = _; unfold pS; rw [if_neg (by omega)]; rfl, rfl⟩

theorem decide_late (f t y p l mi ms mp mq : Int) (mb : Bool) (i st pr q : Int) (b : Bool) (d n : Int) (lo : -9223372036854775808 ≤ t) (h : 4 < mT f i t) (w : World) :
    Calls Try.prog 52 #[.agg #[], .agg #[.int .i64 f, .int .i64 t, .int .i64 y, .int .i64 p, .int .i64 l], .agg #[.int .i64 mi, .int .i64 ms, .int .i64 mp, .int .i64 mq, .bool mb], .agg #[.int .i64 i, .int .i64 st, .int .i64 pr, .int .i64 q, .bool b], .int .i64 d, .int .i64 n] w fun e w' => e = .returned (.tuple #[.agg #[.int .i64 1, .int .i64 0], .agg #[.int .i64 i, .int .i64 (mT f i t), .int .i64 y, .int .i64 (mP f i p q), .int .i64 (mL f i l)]]) ∧ Hid (w.grownBy w' none) := by
  go_enter Try.func52, Try.ntmps52
  go_wp2_with fail
  refine (met_any f t y p l i st pr q b lo _).mono ?_
  rintro e v1 ⟨rfl, g⟩
  have M1 := Lib.hid (((((((Own.start w).skip _).alloc _ _).skip _).skip _).alloc _ _).alloc _ _ |>.grown g.out)
  simp only [size_alloc] at M1
  have s0 := M1.out.cell 2 0 rfl rfl; have s1 := M1.out.cell 2 1 rfl rfl; have s2 := M1.out.cell 2 2 rfl rfl; have s3 := M1.out.cell 2 3 rfl rfl; have s4 := M1.out.cell 2 4 rfl rfl
  have sf0 := M1.out.free 2 0 rfl; have sf1 := M1.out.free 2 1 rfl; have sf2 := M1.out.free 2 2 rfl; have sf3 := M1.out.free 2 3 rfl; have sf4 := M1.out.free 2 4 rfl
  have k0 := M1.out.cell 1 0 rfl rfl; have k1 := M1.out.cell 1 1 rfl rfl
  have kf0 := M1.out.free 1 0 rfl; have kf1 := M1.out.free 1 1 rfl
  have r0 := M1.out.cell 0 0 rfl rfl; have r1 := M1.out.cell 0 1 rfl rfl; have r2 := M1.out.cell 0 2 rfl rfl; have r3 := M1.out.cell 0 3 rfl rfl; have r4 := M1.out.cell 0 4 rfl rfl
  have rf0 := M1.out.free 0 0 rfl; have rf1 := M1.out.free 0 1 rfl; have rf2 := M1.out.free 0 2 rfl; have rf3 := M1.out.free 0 3 rfl; have rf4 := M1.out.free 0 4 rfl
  go_wp2
  have M2 := Lib.hid (((((M1.out.set 2 0 (.int .i64 i) rfl).set 2 1 (.int .i64 (mT f i t)) rfl).set 2 2 (.int .i64 y) rfl).set 2 3 (.int .i64 (mP f i p q)) rfl).set 2 4 (.int .i64 (mL f i l)) rfl)
  simp only [List.set_cons_succ, List.set_cons_zero] at M2
  generalize ((((((v1).setCell ⟨w.heap.size + 1, 0, none⟩ (.int .i64 i)).setCell ⟨w.heap.size + 1, 1, none⟩ (.int .i64 (mT f i t))).setCell ⟨w.heap.size + 1, 2, none⟩ (.int .i64 y)).setCell ⟨w.heap.size + 1, 3, none⟩ (.int .i64 (mP f i p q))).setCell ⟨w.heap.size + 1, 4, none⟩ (.int .i64 (mL f i l))) = v2 at *
  clear s0 s1 s2 s3 s4 sf0 sf1 sf2 sf3 sf4 k0 k1 kf0 kf1 r0 r1 r2 r3 r4 rf0 rf1 rf2 rf3 rf4
  have s0 := M2.out.cell 2 0 rfl rfl; have s1 := M2.out.cell 2 1 rfl rfl; have s2 := M2.out.cell 2 2 rfl rfl; have s3 := M2.out.cell 2 3 rfl rfl; have s4 := M2.out.cell 2 4 rfl rfl
  have k0 := M2.out.cell 1 0 rfl rfl; have k1 := M2.out.cell 1 1 rfl rfl
  have kf0 := M2.out.free 1 0 rfl; have kf1 := M2.out.free 1 1 rfl
  have r0 := M2.out.cell 0 0 rfl rfl; have r1 := M2.out.cell 0 1 rfl rfl; have r2 := M2.out.cell 0 2 rfl rfl; have r3 := M2.out.cell 0 3 rfl rfl; have r4 := M2.out.cell 0 4 rfl rfl
  have rf0 := M2.out.free 0 0 rfl; have rf1 := M2.out.free 0 1 rfl; have rf2 := M2.out.free 0 2 rfl; have rf3 := M2.out.free 0 3 rfl; have rf4 := M2.out.free 0 4 rfl
  go_region
  go_wp2
  have M3 := Lib.hid (Own.drew ((((((((M2.out.set 1 0 (.int .i64 1) rfl).set 1 1 (.int .i64 0) rfl)).set 0 0 (.int .i64 i) rfl).set 0 1 (.int .i64 (mT f i t)) rfl).set 0 2 (.int .i64 y) rfl).set 0 3 (.int .i64 (mP f i p q)) rfl).set 0 4 (.int .i64 (mL f i l)) rfl))
  simp only [List.set_cons_succ, List.set_cons_zero] at M3
  generalize World.drew (((((((((v2).setCell ⟨w.heap.size + 1 + 1 + 1 + 1, 0, none⟩ (.int .i64 1)).setCell ⟨w.heap.size + 1 + 1 + 1 + 1, 1, none⟩ (.int .i64 0))).setCell ⟨w.heap.size + 1 + 1 + 1 + 1 + 1, 0, none⟩ (.int .i64 i)).setCell ⟨w.heap.size + 1 + 1 + 1 + 1 + 1, 1, none⟩ (.int .i64 (mT f i t))).setCell ⟨w.heap.size + 1 + 1 + 1 + 1 + 1, 2, none⟩ (.int .i64 y)).setCell ⟨w.heap.size + 1 + 1 + 1 + 1 + 1, 3, none⟩ (.int .i64 (mP f i p q))).setCell ⟨w.heap.size + 1 + 1 + 1 + 1 + 1, 4, none⟩ (.int .i64 (mL f i l))) = v3 at *
  clear s0 s1 s2 s3 s4 k0 k1 kf0 kf1 r0 r1 r2 r3 r4 rf0 rf1 rf2 rf3 rf4
  have k0 := M3.out.cell 1 0 rfl rfl; have k1 := M3.out.cell 1 1 rfl rfl
  have r0 := M3.out.cell 0 0 rfl rfl; have r1 := M3.out.cell 0 1 rfl rfl; have r2 := M3.out.cell 0 2 rfl rfl; have r3 := M3.out.cell 0 3 rfl rfl; have r4 := M3.out.cell 0 4 rfl rfl
  refine bodyPost_ret (v := .tuple #[.agg #[.int .i64 1, .int .i64 0], .agg #[.int .i64 i, .int .i64 (mT f i t), .int .i64 y, .int .i64 (mP f i p q), .int .i64 (mL f i l)]]) ?_ rfl ⟨rfl, M3.out.grow⟩
  simp [results, Try.results52, go_sem, *]

theorem decide_early (f t y p l mi ms mp mq : Int) (mb : Bool) (i st pr q : Int) (b : Bool) (d n : Int) (lo : -9223372036854775808 ≤ t) (h : ¬ 4 < mT f i t) (w : World) :
    Calls Try.prog 52 #[.agg #[], .agg #[.int .i64 f, .int .i64 t, .int .i64 y, .int .i64 p, .int .i64 l], .agg #[.int .i64 mi, .int .i64 ms, .int .i64 mp, .int .i64 mq, .bool mb], .agg #[.int .i64 i, .int .i64 st, .int .i64 pr, .int .i64 q, .bool b], .int .i64 d, .int .i64 n] w fun e w' => e = .returned (.tuple #[.agg #[.int .i64 2, .int .i64 (steps (pS (mT f i t) d) n)], .agg #[.int .i64 i, .int .i64 (mT f i t), .int .i64 y, .int .i64 (mP f i p q), .int .i64 (mL f i l)]]) ∧ Hid (w.grownBy w' none) := by
  go_enter Try.func52, Try.ntmps52
  go_wp2_with fail
  refine (met_any f t y p l i st pr q b lo _).mono ?_
  rintro e v1 ⟨rfl, g⟩
  have M1 := Lib.hid (((((((Own.start w).skip _).alloc _ _).skip _).skip _).alloc _ _).alloc _ _ |>.grown g.out)
  simp only [size_alloc] at M1
  obtain ⟨e1, e1'⟩ := M1.out.ne' 1 2 rfl rfl (by decide)
  obtain ⟨e2, e2'⟩ := M1.out.ne' 0 2 rfl rfl (by decide)
  obtain ⟨e3, e3'⟩ := M1.out.ne' 0 1 rfl rfl (by decide)
  have s0 := M1.out.cell 2 0 rfl rfl; have s1 := M1.out.cell 2 1 rfl rfl; have s2 := M1.out.cell 2 2 rfl rfl; have s3 := M1.out.cell 2 3 rfl rfl; have s4 := M1.out.cell 2 4 rfl rfl
  have sf0 := M1.out.free 2 0 rfl; have sf1 := M1.out.free 2 1 rfl; have sf2 := M1.out.free 2 2 rfl; have sf3 := M1.out.free 2 3 rfl; have sf4 := M1.out.free 2 4 rfl
  have k0 := M1.out.cell 1 0 rfl rfl; have k1 := M1.out.cell 1 1 rfl rfl
  have kf0 := M1.out.free 1 0 rfl; have kf1 := M1.out.free 1 1 rfl
  have r0 := M1.out.cell 0 0 rfl rfl; have r1 := M1.out.cell 0 1 rfl rfl; have r2 := M1.out.cell 0 2 rfl rfl; have r3 := M1.out.cell 0 3 rfl rfl; have r4 := M1.out.cell 0 4 rfl rfl
  have rf0 := M1.out.free 0 0 rfl; have rf1 := M1.out.free 0 1 rfl; have rf2 := M1.out.free 0 2 rfl; have rf3 := M1.out.free 0 3 rfl; have rf4 := M1.out.free 0 4 rfl
  go_wp2
  generalize w.heap.size + 1 = sb at *
  generalize sb + 1 + 1 + 1 = kb at *
  generalize kb + 1 = rb at *
  have M2 := Lib.hid (((((M1.out.set 2 0 (.int .i64 i) rfl).set 2 1 (.int .i64 (mT f i t)) rfl).set 2 2 (.int .i64 y) rfl).set 2 3 (.int .i64 (mP f i p q)) rfl).set 2 4 (.int .i64 (mL f i l)) rfl)
  simp only [List.set_cons_succ, List.set_cons_zero] at M2
  generalize ((((((v1).setCell ⟨sb, 0, none⟩ (.int .i64 i)).setCell ⟨sb, 1, none⟩ (.int .i64 (mT f i t))).setCell ⟨sb, 2, none⟩ (.int .i64 y)).setCell ⟨sb, 3, none⟩ (.int .i64 (mP f i p q))).setCell ⟨sb, 4, none⟩ (.int .i64 (mL f i l))) = v2 at *
  clear s0 s1 s2 s3 s4 sf0 sf1 sf2 sf3 sf4 k0 k1 kf0 kf1 r0 r1 r2 r3 r4 rf0 rf1 rf2 rf3 rf4
  have s0 := M2.out.cell 2 0 rfl rfl; have s1 := M2.out.cell 2 1 rfl rfl; have s2 := M2.out.cell 2 2 rfl rfl; have s3 := M2.out.cell 2 3 rfl rfl; have s4 := M2.out.cell 2 4 rfl rfl
  have k0 := M2.out.cell 1 0 rfl rfl; have k1 := M2.out.cell 1 1 rfl rfl
  have kf0 := M2.out.free 1 0 rfl; have kf1 := M2.out.free 1 1 rfl
  have r0 := M2.out.cell 0 0 rfl rfl; have r1 := M2.out.cell 0 1 rfl rfl; have r2 := M2.out.cell 0 2 rfl rfl; have r3 := M2.out.cell 0 3 rfl rfl; have r4 := M2.out.cell 0 4 rfl rfl
  have rf0 := M2.out.free 0 0 rfl; have rf1 := M2.out.free 0 1 rfl; have rf2 := M2.out.free 0 2 rfl; have rf3 := M2.out.free 0 3 rfl; have rf4 := M2.out.free 0 4 rfl
  go_region_held3 (fun w' => w'.cell? ⟨sb, 0, none⟩ = some (.int .i64 i) ∧ w'.cell? ⟨sb, 1, none⟩ = some (.int .i64 (mT f i t)) ∧ w'.cell? ⟨sb, 2, none⟩ = some (.int .i64 y) ∧ w'.cell? ⟨sb, 3, none⟩ = some (.int .i64 (mP f i p q)) ∧ w'.cell? ⟨sb, 4, none⟩ = some (.int .i64 (mL f i l))) (go_keep) (first | (go_at_call 55; refine (psteps_any (mT f i t) d (by omega) _).mono ?_; rintro e u ⟨rfl, rfl⟩) | (go_at_call 54; refine (for_any (pS (mT f i t) d) n _).mono ?_; rintro e v3 ⟨rfl, g3⟩; have M3 := Lib.hid (M2.out.grown (gb_trans (by repeat (first | exact gb_refl _ _ | refine gb_drewN ?_ _ | refine gb_drew ?_ | refine gb_alloc ?_ _)) g3.out)); have c0 := M3.out.cell 2 0 rfl rfl; have c1 := M3.out.cell 2 1 rfl rfl; have c2 := M3.out.cell 2 2 rfl rfl; have c3 := M3.out.cell 2 3 rfl rfl; have c4 := M3.out.cell 2 4 rfl rfl; have kc0 := M3.out.cell 1 0 rfl rfl; have kc1 := M3.out.cell 1 1 rfl rfl; have kg0 := M3.out.free 1 0 rfl; have kg1 := M3.out.free 1 1 rfl; have rc0 := M3.out.cell 0 0 rfl rfl; have rc1 := M3.out.cell 0 1 rfl rfl; have rc2 := M3.out.cell 0 2 rfl rfl; have rc3 := M3.out.cell 0 3 rfl rfl; have rc4 := M3.out.cell 0 4 rfl rfl; have rg0 := M3.out.free 0 0 rfl; have rg1 := M3.out.free 0 1 rfl; have rg2 := M3.out.free 0 2 rfl; have rg3 := M3.out.free 0 3 rfl; have rg4 := M3.out.free 0 4 rfl))
  go_wp2
  have M4 := Lib.hid ((((((((M3.out.set 1 0 (.int .i64 2) rfl).set 1 1 (.int .i64 (steps (pS (mT f i t) d) n)) rfl)).set 0 0 (.int .i64 i) rfl).set 0 1 (.int .i64 (mT f i t)) rfl).set 0 2 (.int .i64 y) rfl).set 0 3 (.int .i64 (mP f i p q)) rfl).set 0 4 (.int .i64 (mL f i l)) rfl)
  simp only [List.set_cons_succ, List.set_cons_zero] at M4
  generalize (((((((((v3).setCell ⟨kb, 0, none⟩ (.int .i64 2)).setCell ⟨kb, 1, none⟩ (.int .i64 (steps (pS (mT f i t) d) n)))).setCell ⟨rb, 0, none⟩ (.int .i64 i)).setCell ⟨rb, 1, none⟩ (.int .i64 (mT f i t))).setCell ⟨rb, 2, none⟩ (.int .i64 y)).setCell ⟨rb, 3, none⟩ (.int .i64 (mP f i p q))).setCell ⟨rb, 4, none⟩ (.int .i64 (mL f i l))) = v4 at *
  clear s0 s1 s2 s3 s4 k0 k1 kf0 kf1 r0 r1 r2 r3 r4 rf0 rf1 rf2 rf3 rf4 c0 c1 c2 c3 c4 kc0 kc1 kg0 kg1 rc0 rc1 rc2 rc3 rc4 rg0 rg1 rg2 rg3 rg4
  have k0 := M4.out.cell 1 0 rfl rfl; have k1 := M4.out.cell 1 1 rfl rfl
  have r0 := M4.out.cell 0 0 rfl rfl; have r1 := M4.out.cell 0 1 rfl rfl; have r2 := M4.out.cell 0 2 rfl rfl; have r3 := M4.out.cell 0 3 rfl rfl; have r4 := M4.out.cell 0 4 rfl rfl
  refine bodyPost_ret (v := .tuple #[.agg #[.int .i64 2, .int .i64 (steps (pS (mT f i t) d) n)], .agg #[.int .i64 i, .int .i64 (mT f i t), .int .i64 y, .int .i64 (mP f i p q), .int .i64 (mL f i l)]]) ?_ rfl ⟨rfl, M4.out.grow⟩
  simp [results, Try.results52, go_sem, *]

theorem decide_any (f t y p l mi ms mp mq : Int) (mb : Bool) (i st pr q : Int) (b : Bool) (d n : Int) (lo : -9223372036854775808 ≤ t) (w : World) :
    Calls Try.prog 52 #[.agg #[], .agg #[.int .i64 f, .int .i64 t, .int .i64 y, .int .i64 p, .int .i64 l], .agg #[.int .i64 mi, .int .i64 ms, .int .i64 mp, .int .i64 mq, .bool mb], .agg #[.int .i64 i, .int .i64 st, .int .i64 pr, .int .i64 q, .bool b], .int .i64 d, .int .i64 n] w fun e w' => e = .returned (.tuple #[.agg #[.int .i64 (dK (mT f i t)), .int .i64 (dN (mT f i t) d n)], .agg #[.int .i64 i, .int .i64 (mT f i t), .int .i64 y, .int .i64 (mP f i p q), .int .i64 (mL f i l)]]) ∧ Hid (w.grownBy w' none) := by
  by_cases h : 4 < mT f i t
  · rw [show dK (mT f i t) = 1 by simp [dK, h], show dN (mT f i t) d n = 0 by simp [dN, h]]
    exact decide_late f t y p l mi ms mp mq mb i st pr q b d n lo h w
  · rw [show dK (mT f i t) = 2 by simp [dK, h], show dN (mT f i t) d n = steps (pS (mT f i t) d) n by simp [dN, h]]
    exact decide_early f t y p l mi ms mp mq mb i st pr q b d n lo h w

/-- In the loop that doubles: k times so far. -/
def Rel (u : World) (T : Int) (pv iv : Value) (wr : World) : Prop :=
  wr = u ∧ ((iv = .int .i64 0 ∧ pv = .int .i64 1) ∨ (iv = .int .i64 1 ∧ pv = .int .i64 2 ∧ 1 ≤ T) ∨ (iv = .int .i64 2 ∧ pv = .int .i64 4 ∧ 2 ≤ T) ∨ (iv = .int .i64 3 ∧ pv = .int .i64 8 ∧ 3 ≤ T) ∨ (iv = .int .i64 4 ∧ pv = .int .i64 16 ∧ 4 ≤ T))

end Go.Proofs.Ytnaagcofgnmmlaa.pol
