/- The contracts of package greedy: what is decided about a foe by both stamps, whether it waits, and what was seen of its pulse; those of the document's own decision (quarrelref09), too. -/
import Derived.Test.YtnaagcofgnmmlaaRef05
import Derived.Test.YtnaagcofgnmmlaaOwnK
import Derived.Test.YtnaagcofgnmmlaaEqCh
import Derived.Test.YtnaagcofgnmmlaaMidK
import Derived.Deep.CutRange
import Derived.Deep.DeepCutAuto
namespace Go.Proofs.Ytnaagcofgnmmlaa.gre
open Go Go.RowKit Go.Proofs.Ytnaagcofgnmmlaa.base Go.Proofs.Ytnaagcofgnmmlaa.ch
set_option linter.unusedVariables false

/-- The decision of one of stamp ms about a foe of stamp st that waits or not (b), of a wait of n, where a look told L: its kind, its steps, and the pulse and the looks behind it. -/
def dK (ms st : Int) (b : Bool) (n L : Int) : Int := if ms < st ∨ b = true ∨ n < L then 1 else 2
def dN (ms st : Int) (b : Bool) (n L : Int) : Int := if ms < st ∨ b = true ∨ n < L then 0 else 1
def dP (ms st : Int) (b : Bool) (P q : Int) : Int := if ms < st ∨ b = true then P else q
def dL (ms st : Int) (b : Bool) (l L : Int) : Int := if ms < st ∨ b = true then l else L

theorem steps_one (n : Int) : steps 1 n = 1 := by unfold steps; omega

theorem for_one (n : Int) (w : World) : Calls Try.prog 54 #[.int .i64 1, .int .i64 n] w fun e w' => e = .returned (.agg #[.int .i64 2, .int .i64 1]) ∧ Hid (w.grownBy w' none) := by
  have h := for_any 1 n w
  rw [steps_one] at h
  exact h

theorem dOk (ms st : Int) (b : Bool) (n L : Int) (h : 1 ≤ n) : okB (dK ms st b n L) (dN ms st b n L) n = true := by
  unfold dK dN okB
  split <;> simp <;> omega

theorem abort_any (w : World) : Calls Try.prog 63 #[] w fun e w' => e = .returned (.agg #[.int .i64 1, .int .i64 0]) ∧ Hid (w.grownBy w' none) := by
  go_enter Try.func63, Try.ntmps63
  go_wp2
  refine bodyPost_ret (v := .agg #[.int .i64 1, .int .i64 0]) (by simp [results, Try.results63, go_sem]) rfl ⟨rfl, ?_⟩
  repeat (first | exact gb_refl _ _ | refine gb_alloc ?_ _ | refine gb_drewN ?_ _ | refine gb_setNew ?_ (by simp) _)

theorem decide_quick (f t y p l mi ms mp mq : Int) (mb : Bool) (i st pr q : Int) (b : Bool) (d n : Int) (lo : -9223372036854775808 ≤ t) (lo2 : -9223372036854775808 ≤ l) (h : ms < st ∨ (¬ ms < st ∧ b = true)) (w : World) :
    Calls Try.prog 62 #[.agg #[], .agg #[.int .i64 f, .int .i64 t, .int .i64 y, .int .i64 p, .int .i64 l], .agg #[.int .i64 mi, .int .i64 ms, .int .i64 mp, .int .i64 mq, .bool mb], .agg #[.int .i64 i, .int .i64 st, .int .i64 pr, .int .i64 q, .bool b], .int .i64 d, .int .i64 n] w fun e w' => e = .returned (.tuple #[.agg #[.int .i64 1, .int .i64 0], .agg #[.int .i64 i, .int .i64 (mT f i t), .int .i64 y, .int .i64 (mP f i p q), .int .i64 (mL f i l)]]) ∧ Hid (w.grownBy w' none) := by
  rcases h with h | ⟨h, rfl⟩
  all_goals
    first | (have hd : decide (ms < st) = true := by simpa using h) | (have hd : decide (ms < st) = false := by simpa using h)
    clear h
    go_enter Try.func62, Try.ntmps62
    go_wp2_with fail
    refine (met_any f t y p l i st pr q _ lo _).mono ?_
    rintro e v1 ⟨rfl, g⟩
    have M1 := Lib.hid (((((((Own.start w).skip _).alloc _ _).alloc _ _).alloc _ _).alloc _ _).alloc _ _ |>.grown g.out)
    simp only [size_alloc] at M1
    obtain ⟨e1, e1'⟩ := M1.out.ne' 1 4 rfl rfl (by decide)
    obtain ⟨e2, e2'⟩ := M1.out.ne' 0 4 rfl rfl (by decide)
    obtain ⟨e3, e3'⟩ := M1.out.ne' 0 1 rfl rfl (by decide)
    have s0 := M1.out.cell 4 0 rfl rfl; have s1 := M1.out.cell 4 1 rfl rfl; have s2 := M1.out.cell 4 2 rfl rfl; have s3 := M1.out.cell 4 3 rfl rfl; have s4 := M1.out.cell 4 4 rfl rfl
    have sf0 := M1.out.free 4 0 rfl; have sf1 := M1.out.free 4 1 rfl; have sf2 := M1.out.free 4 2 rfl; have sf3 := M1.out.free 4 3 rfl; have sf4 := M1.out.free 4 4 rfl
    go_upto_region 2 with fail
    generalize w.heap.size + 1 = sb at *
    generalize sb + 1 = mb1 at *
    generalize mb1 + 1 = fb at *
    generalize fb + 1 = kb at *
    generalize kb + 1 = rb at *
    have M2 := Lib.hid (((((M1.out.set 4 0 (.int .i64 i) rfl).set 4 1 (.int .i64 (mT f i t)) rfl).set 4 2 (.int .i64 y) rfl).set 4 3 (.int .i64 (mP f i p q)) rfl).set 4 4 (.int .i64 (mL f i l)) rfl)
    simp only [List.set_cons_succ, List.set_cons_zero] at M2
    generalize ((((((v1).setCell ⟨sb, 0, none⟩ (.int .i64 i)).setCell ⟨sb, 1, none⟩ (.int .i64 (mT f i t))).setCell ⟨sb, 2, none⟩ (.int .i64 y)).setCell ⟨sb, 3, none⟩ (.int .i64 (mP f i p q))).setCell ⟨sb, 4, none⟩ (.int .i64 (mL f i l))) = v2 at *
    clear s0 s1 s2 s3 s4 sf0 sf1 sf2 sf3 sf4
    have s0 := M2.out.cell 4 0 rfl rfl; have s1 := M2.out.cell 4 1 rfl rfl; have s2 := M2.out.cell 4 2 rfl rfl; have s3 := M2.out.cell 4 3 rfl rfl; have s4 := M2.out.cell 4 4 rfl rfl
    have m0 := M2.out.cell 3 0 rfl rfl; have m1 := M2.out.cell 3 1 rfl rfl; have m2 := M2.out.cell 3 2 rfl rfl; have m3 := M2.out.cell 3 3 rfl rfl; have m4 := M2.out.cell 3 4 rfl rfl
    have o0 := M2.out.cell 2 0 rfl rfl; have o1 := M2.out.cell 2 1 rfl rfl; have o2 := M2.out.cell 2 2 rfl rfl; have o3 := M2.out.cell 2 3 rfl rfl; have o4 := M2.out.cell 2 4 rfl rfl
    have k0 := M2.out.cell 1 0 rfl rfl; have k1 := M2.out.cell 1 1 rfl rfl
    have kf0 := M2.out.free 1 0 rfl; have kf1 := M2.out.free 1 1 rfl
    have r0 := M2.out.cell 0 0 rfl rfl; have r1 := M2.out.cell 0 1 rfl rfl; have r2 := M2.out.cell 0 2 rfl rfl; have r3 := M2.out.cell 0 3 rfl rfl; have r4 := M2.out.cell 0 4 rfl rfl
    have rf0 := M2.out.free 0 0 rfl; have rf1 := M2.out.free 0 1 rfl; have rf2 := M2.out.free 0 2 rfl; have rf3 := M2.out.free 0 3 rfl; have rf4 := M2.out.free 0 4 rfl
    go_wp2
    go_region_held3 (fun w' => w'.cell? ⟨sb, 0, none⟩ = some (.int .i64 i) ∧ w'.cell? ⟨sb, 1, none⟩ = some (.int .i64 (mT f i t)) ∧ w'.cell? ⟨sb, 2, none⟩ = some (.int .i64 y) ∧ w'.cell? ⟨sb, 3, none⟩ = some (.int .i64 (mP f i p q)) ∧ w'.cell? ⟨sb, 4, none⟩ = some (.int .i64 (mL f i l))) (go_keep) ((go_at_call 63; refine (abort_any _).mono ?_; rintro e v3 ⟨rfl, g3⟩; have M3 := Lib.hid (M2.out.grown (gb_trans (by repeat (first | exact gb_refl _ _ | refine gb_drewN ?_ _ | refine gb_drew ?_ | refine gb_alloc ?_ _)) g3.out)); have c0 := M3.out.cell 4 0 rfl rfl; have c1 := M3.out.cell 4 1 rfl rfl; have c2 := M3.out.cell 4 2 rfl rfl; have c3 := M3.out.cell 4 3 rfl rfl; have c4 := M3.out.cell 4 4 rfl rfl; have kc0 := M3.out.cell 1 0 rfl rfl; have kc1 := M3.out.cell 1 1 rfl rfl; have kg0 := M3.out.free 1 0 rfl; have kg1 := M3.out.free 1 1 rfl; have rc0 := M3.out.cell 0 0 rfl rfl; have rc1 := M3.out.cell 0 1 rfl rfl; have rc2 := M3.out.cell 0 2 rfl rfl; have rc3 := M3.out.cell 0 3 rfl rfl; have rc4 := M3.out.cell 0 4 rfl rfl; have rg0 := M3.out.free 0 0 rfl; have rg1 := M3.out.free 0 1 rfl; have rg2 := M3.out.free 0 2 rfl; have rg3 := M3.out.free 0 3 rfl; have rg4 := M3.out.free 0 4 rfl))
    go_wp2
    have M4 := Lib.hid ((((((((M3.out.set 1 0 (.int .i64 1) rfl).set 1 1 (.int .i64 0) rfl)).set 0 0 (.int .i64 i) rfl).set 0 1 (.int .i64 (mT f i t)) rfl).set 0 2 (.int .i64 y) rfl).set 0 3 (.int .i64 (mP f i p q)) rfl).set 0 4 (.int .i64 (mL f i l)) rfl)
    simp only [List.set_cons_succ, List.set_cons_zero] at M4
    generalize (((((((((v3).setCell ⟨kb, 0, none⟩ (.int .i64 1)).setCell ⟨kb, 1, none⟩ (.int .i64 0))).setCell ⟨rb, 0, none⟩ (.int .i64 i)).setCell ⟨rb, 1, none⟩ (.int .i64 (mT f i t))).setCell ⟨rb, 2, none⟩ (.int .i64 y)).setCell ⟨rb, 3, none⟩ (.int .i64 (mP f i p q))).setCell ⟨rb, 4, none⟩ (.int .i64 (mL f i l))) = v4 at *
    clear s0 s1 s2 s3 s4 k0 k1 kf0 kf1 r0 r1 r2 r3 r4 rf0 rf1 rf2 rf3 rf4 c0 c1 c2 c3 c4 kc0 kc1 kg0 kg1 rc0 rc1 rc2 rc3 rc4 rg0 rg1 rg2 rg3 rg4
    have k0 := M4.out.cell 1 0 rfl rfl; have k1 := M4.out.cell 1 1 rfl rfl
    have r0 := M4.out.cell 0 0 rfl rfl; have r1 := M4.out.cell 0 1 rfl rfl; have r2 := M4.out.cell 0 2 rfl rfl; have r3 := M4.out.cell 0 3 rfl rfl; have r4 := M4.out.cell 0 4 rfl rfl
    refine bodyPost_ret (v := .tuple #[.agg #[.int .i64 1, .int .i64 0], .agg #[.int .i64 i, .int .i64 (mT f i t), .int .i64 y, .int .i64 (mP f i p q), .int .i64 (mL f i l)]]) ?_ rfl ⟨rfl, M4.out.grow⟩
    simp [results, Try.results62, go_sem, *]

theorem decide_stands (f t y p l mi ms mp mq : Int) (mb : Bool) (i st pr q : Int) (b : Bool) (d n : Int) (lo : -9223372036854775808 ≤ t) (lo2 : -9223372036854775808 ≤ l) (h : ¬ ms < st) (hb : b = false) (hs : n < lL (mP f i p q) q (mL f i l)) (w : World) :
    Calls Try.prog 62 #[.agg #[], .agg #[.int .i64 f, .int .i64 t, .int .i64 y, .int .i64 p, .int .i64 l], .agg #[.int .i64 mi, .int .i64 ms, .int .i64 mp, .int .i64 mq, .bool mb], .agg #[.int .i64 i, .int .i64 st, .int .i64 pr, .int .i64 q, .bool b], .int .i64 d, .int .i64 n] w fun e w' => e = .returned (.tuple #[.agg #[.int .i64 1, .int .i64 0], .agg #[.int .i64 i, .int .i64 (mT f i t), .int .i64 y, .int .i64 q, .int .i64 (lL (mP f i p q) q (mL f i l))]]) ∧ Hid (w.grownBy w' none) := by
  subst hb
  have hd : decide (ms < st) = false := by simpa using h
  have hd2 : decide (n < lL (mP f i p q) q (mL f i l)) = true := by simpa using hs
  have lo3 := mL_lo f i l lo2
  generalize hL : lL (mP f i p q) q (mL f i l) = L at *
  have HL := Lib.hid hL
  clear h hs hL
  go_enter Try.func62, Try.ntmps62
  go_wp2_with fail
  refine (met_any f t y p l i st pr q _ lo _).mono ?_
  rintro e v1 ⟨rfl, g⟩
  have M1 := Lib.hid (((((((Own.start w).skip _).alloc _ _).alloc _ _).alloc _ _).alloc _ _).alloc _ _ |>.grown g.out)
  simp only [size_alloc] at M1
  obtain ⟨e1, e1'⟩ := M1.out.ne' 1 4 rfl rfl (by decide)
  obtain ⟨e2, e2'⟩ := M1.out.ne' 0 4 rfl rfl (by decide)
  obtain ⟨e3, e3'⟩ := M1.out.ne' 0 1 rfl rfl (by decide)
  have s0 := M1.out.cell 4 0 rfl rfl; have s1 := M1.out.cell 4 1 rfl rfl; have s2 := M1.out.cell 4 2 rfl rfl; have s3 := M1.out.cell 4 3 rfl rfl; have s4 := M1.out.cell 4 4 rfl rfl
  have sf0 := M1.out.free 4 0 rfl; have sf1 := M1.out.free 4 1 rfl; have sf2 := M1.out.free 4 2 rfl; have sf3 := M1.out.free 4 3 rfl; have sf4 := M1.out.free 4 4 rfl
  go_upto_region 2 with fail
  generalize w.heap.size + 1 = sb at *
  generalize sb + 1 = mb1 at *
  generalize mb1 + 1 = fb at *
  generalize fb + 1 = kb at *
  generalize kb + 1 = rb at *
  have M2 := Lib.hid (((((M1.out.set 4 0 (.int .i64 i) rfl).set 4 1 (.int .i64 (mT f i t)) rfl).set 4 2 (.int .i64 y) rfl).set 4 3 (.int .i64 (mP f i p q)) rfl).set 4 4 (.int .i64 (mL f i l)) rfl)
  simp only [List.set_cons_succ, List.set_cons_zero] at M2
  generalize ((((((v1).setCell ⟨sb, 0, none⟩ (.int .i64 i)).setCell ⟨sb, 1, none⟩ (.int .i64 (mT f i t))).setCell ⟨sb, 2, none⟩ (.int .i64 y)).setCell ⟨sb, 3, none⟩ (.int .i64 (mP f i p q))).setCell ⟨sb, 4, none⟩ (.int .i64 (mL f i l))) = v2 at *
  clear s0 s1 s2 s3 s4 sf0 sf1 sf2 sf3 sf4
  have s0 := M2.out.cell 4 0 rfl rfl; have s1 := M2.out.cell 4 1 rfl rfl; have s2 := M2.out.cell 4 2 rfl rfl; have s3 := M2.out.cell 4 3 rfl rfl; have s4 := M2.out.cell 4 4 rfl rfl
  have m0 := M2.out.cell 3 0 rfl rfl; have m1 := M2.out.cell 3 1 rfl rfl; have m2 := M2.out.cell 3 2 rfl rfl; have m3 := M2.out.cell 3 3 rfl rfl; have m4 := M2.out.cell 3 4 rfl rfl
  have o0 := M2.out.cell 2 0 rfl rfl; have o1 := M2.out.cell 2 1 rfl rfl; have o2 := M2.out.cell 2 2 rfl rfl; have o3 := M2.out.cell 2 3 rfl rfl; have o4 := M2.out.cell 2 4 rfl rfl
  go_wp2_with fail
  refine (look_any i (mT f i t) y (mP f i p q) (mL f i l) q n lo3 _).mono ?_
  rintro e v3 ⟨rfl, g3⟩
  rw [HL.out, hd2]
  have M3 := Lib.hid (M2.out.grown g3.out)
  clear s0 s1 s2 s3 s4 m0 m1 m2 m3 m4 o0 o1 o2 o3 o4 M2 g3
  have s0 := M3.out.cell 4 0 rfl rfl; have s1 := M3.out.cell 4 1 rfl rfl; have s2 := M3.out.cell 4 2 rfl rfl; have s3 := M3.out.cell 4 3 rfl rfl; have s4 := M3.out.cell 4 4 rfl rfl
  have sf0 := M3.out.free 4 0 rfl; have sf1 := M3.out.free 4 1 rfl; have sf2 := M3.out.free 4 2 rfl; have sf3 := M3.out.free 4 3 rfl; have sf4 := M3.out.free 4 4 rfl
  go_upto_region 5 with fail
  have M4 := Lib.hid (((((M3.out.set 4 0 (.int .i64 i) rfl).set 4 1 (.int .i64 (mT f i t)) rfl).set 4 2 (.int .i64 y) rfl).set 4 3 (.int .i64 q) rfl).set 4 4 (.int .i64 L) rfl)
  simp only [List.set_cons_succ, List.set_cons_zero] at M4
  generalize ((((((v3).setCell ⟨sb, 0, none⟩ (.int .i64 i)).setCell ⟨sb, 1, none⟩ (.int .i64 (mT f i t))).setCell ⟨sb, 2, none⟩ (.int .i64 y)).setCell ⟨sb, 3, none⟩ (.int .i64 q)).setCell ⟨sb, 4, none⟩ (.int .i64 L)) = v4 at *
  clear s0 s1 s2 s3 s4 sf0 sf1 sf2 sf3 sf4
  have s0 := M4.out.cell 4 0 rfl rfl; have s1 := M4.out.cell 4 1 rfl rfl; have s2 := M4.out.cell 4 2 rfl rfl; have s3 := M4.out.cell 4 3 rfl rfl; have s4 := M4.out.cell 4 4 rfl rfl
  have k0 := M4.out.cell 1 0 rfl rfl; have k1 := M4.out.cell 1 1 rfl rfl
  have kf0 := M4.out.free 1 0 rfl; have kf1 := M4.out.free 1 1 rfl
  have r0 := M4.out.cell 0 0 rfl rfl; have r1 := M4.out.cell 0 1 rfl rfl; have r2 := M4.out.cell 0 2 rfl rfl; have r3 := M4.out.cell 0 3 rfl rfl; have r4 := M4.out.cell 0 4 rfl rfl
  have rf0 := M4.out.free 0 0 rfl; have rf1 := M4.out.free 0 1 rfl; have rf2 := M4.out.free 0 2 rfl; have rf3 := M4.out.free 0 3 rfl; have rf4 := M4.out.free 0 4 rfl
  go_wp2
  go_region_held3 (fun w' => w'.cell? ⟨sb, 0, none⟩ = some (.int .i64 i) ∧ w'.cell? ⟨sb, 1, none⟩ = some (.int .i64 (mT f i t)) ∧ w'.cell? ⟨sb, 2, none⟩ = some (.int .i64 y) ∧ w'.cell? ⟨sb, 3, none⟩ = some (.int .i64 q) ∧ w'.cell? ⟨sb, 4, none⟩ = some (.int .i64 L)) (go_keep) ((go_at_call 63; refine (abort_any _).mono ?_; rintro e v5 ⟨rfl, g5⟩; have M5 := Lib.hid (M4.out.grown (gb_trans (by repeat (first | exact gb_refl _ _ | refine gb_drewN ?_ _ | refine gb_drew ?_ | refine gb_alloc ?_ _)) g5.out)); have c0 := M5.out.cell 4 0 rfl rfl; have c1 := M5.out.cell 4 1 rfl rfl; have c2 := M5.out.cell 4 2 rfl rfl; have c3 := M5.out.cell 4 3 rfl rfl; have c4 := M5.out.cell 4 4 rfl rfl; have kc0 := M5.out.cell 1 0 rfl rfl; have kc1 := M5.out.cell 1 1 rfl rfl; have kg0 := M5.out.free 1 0 rfl; have kg1 := M5.out.free 1 1 rfl; have rc0 := M5.out.cell 0 0 rfl rfl; have rc1 := M5.out.cell 0 1 rfl rfl; have rc2 := M5.out.cell 0 2 rfl rfl; have rc3 := M5.out.cell 0 3 rfl rfl; have rc4 := M5.out.cell 0 4 rfl rfl; have rg0 := M5.out.free 0 0 rfl; have rg1 := M5.out.free 0 1 rfl; have rg2 := M5.out.free 0 2 rfl; have rg3 := M5.out.free 0 3 rfl; have rg4 := M5.out.free 0 4 rfl))
  go_wp2
  have M6 := Lib.hid ((((((((M5.out.set 1 0 (.int .i64 1) rfl).set 1 1 (.int .i64 0) rfl)).set 0 0 (.int .i64 i) rfl).set 0 1 (.int .i64 (mT f i t)) rfl).set 0 2 (.int .i64 y) rfl).set 0 3 (.int .i64 q) rfl).set 0 4 (.int .i64 L) rfl)
  simp only [List.set_cons_succ, List.set_cons_zero] at M6
  generalize (((((((((v5).setCell ⟨kb, 0, none⟩ (.int .i64 1)).setCell ⟨kb, 1, none⟩ (.int .i64 0))).setCell ⟨rb, 0, none⟩ (.int .i64 i)).setCell ⟨rb, 1, none⟩ (.int .i64 (mT f i t))).setCell ⟨rb, 2, none⟩ (.int .i64 y)).setCell ⟨rb, 3, none⟩ (.int .i64 q)).setCell ⟨rb, 4, none⟩ (.int .i64 L)) = v6 at *
  clear s0 s1 s2 s3 s4 k0 k1 kf0 kf1 r0 r1 r2 r3 r4 rf0 rf1 rf2 rf3 rf4 c0 c1 c2 c3 c4 kc0 kc1 kg0 kg1 rc0 rc1 rc2 rc3 rc4 rg0 rg1 rg2 rg3 rg4
  have k0 := M6.out.cell 1 0 rfl rfl; have k1 := M6.out.cell 1 1 rfl rfl
  have r0 := M6.out.cell 0 0 rfl rfl; have r1 := M6.out.cell 0 1 rfl rfl; have r2 := M6.out.cell 0 2 rfl rfl; have r3 := M6.out.cell 0 3 rfl rfl; have r4 := M6.out.cell 0 4 rfl rfl
  refine bodyPost_ret (v := .tuple #[.agg #[.int .i64 1, .int .i64 0], .agg #[.int .i64 i, .int .i64 (mT f i t), .int .i64 y, .int .i64 q, .int .i64 L]]) ?_ rfl ⟨rfl, M6.out.grow⟩
  simp [results, Try.results62, go_sem, *]

theorem decide_waits (f t y p l mi ms mp mq : Int) (mb : Bool) (i st pr q : Int) (b : Bool) (d n : Int) (lo : -9223372036854775808 ≤ t) (lo2 : -9223372036854775808 ≤ l) (h : ¬ ms < st) (hb : b = false) (hs : ¬ n < lL (mP f i p q) q (mL f i l)) (w : World) :
    Calls Try.prog 62 #[.agg #[], .agg #[.int .i64 f, .int .i64 t, .int .i64 y, .int .i64 p, .int .i64 l], .agg #[.int .i64 mi, .int .i64 ms, .int .i64 mp, .int .i64 mq, .bool mb], .agg #[.int .i64 i, .int .i64 st, .int .i64 pr, .int .i64 q, .bool b], .int .i64 d, .int .i64 n] w fun e w' => e = .returned (.tuple #[.agg #[.int .i64 2, .int .i64 1], .agg #[.int .i64 i, .int .i64 (mT f i t), .int .i64 y, .int .i64 q, .int .i64 (lL (mP f i p q) q (mL f i l))]]) ∧ Hid (w.grownBy w' none) := by
  subst hb
  have hd : decide (ms < st) = false := by simpa using h
  have hd2 : decide (n < lL (mP f i p q) q (mL f i l)) = false := by simpa using hs
  have lo3 := mL_lo f i l lo2
  generalize hL : lL (mP f i p q) q (mL f i l) = L at *
  have HL := Lib.hid hL
  clear h hs hL
  go_enter Try.func62, Try.ntmps62
  go_wp2_with fail
  refine (met_any f t y p l i st pr q _ lo _).mono ?_
  rintro e v1 ⟨rfl, g⟩
  have M1 := Lib.hid (((((((Own.start w).skip _).alloc _ _).alloc _ _).alloc _ _).alloc _ _).alloc _ _ |>.grown g.out)
  simp only [size_alloc] at M1
  obtain ⟨e1, e1'⟩ := M1.out.ne' 1 4 rfl rfl (by decide)
  obtain ⟨e2, e2'⟩ := M1.out.ne' 0 4 rfl rfl (by decide)
  obtain ⟨e3, e3'⟩ := M1.out.ne' 0 1 rfl rfl (by decide)
  have s0 := M1.out.cell 4 0 rfl rfl; have s1 := M1.out.cell 4 1 rfl rfl; have s2 := M1.out.cell 4 2 rfl rfl; have s3 := M1.out.cell 4 3 rfl rfl; have s4 := M1.out.cell 4 4 rfl rfl
  have sf0 := M1.out.free 4 0 rfl; have sf1 := M1.out.free 4 1 rfl; have sf2 := M1.out.free 4 2 rfl; have sf3 := M1.out.free 4 3 rfl; have sf4 := M1.out.free 4 4 rfl
  go_upto_region 2 with fail
  generalize w.heap.size + 1 = sb at *
  generalize sb + 1 = mb1 at *
  generalize mb1 + 1 = fb at *
  generalize fb + 1 = kb at *
  generalize kb + 1 = rb at *
  have M2 := Lib.hid (((((M1.out.set 4 0 (.int .i64 i) rfl).set 4 1 (.int .i64 (mT f i t)) rfl).set 4 2 (.int .i64 y) rfl).set 4 3 (.int .i64 (mP f i p q)) rfl).set 4 4 (.int .i64 (mL f i l)) rfl)
  simp only [List.set_cons_succ, List.set_cons_zero] at M2
  generalize ((((((v1).setCell ⟨sb, 0, none⟩ (.int .i64 i)).setCell ⟨sb, 1, none⟩ (.int .i64 (mT f i t))).setCell ⟨sb, 2, none⟩ (.int .i64 y)).setCell ⟨sb, 3, none⟩ (.int .i64 (mP f i p q))).setCell ⟨sb, 4, none⟩ (.int .i64 (mL f i l))) = v2 at *
  clear s0 s1 s2 s3 s4 sf0 sf1 sf2 sf3 sf4
  have s0 := M2.out.cell 4 0 rfl rfl; have s1 := M2.out.cell 4 1 rfl rfl; have s2 := M2.out.cell 4 2 rfl rfl; have s3 := M2.out.cell 4 3 rfl rfl; have s4 := M2.out.cell 4 4 rfl rfl
  have m0 := M2.out.cell 3 0 rfl rfl; have m1 := M2.out.cell 3 1 rfl rfl; have m2 := M2.out.cell 3 2 rfl rfl; have m3 := M2.out.cell 3 3 rfl rfl; have m4 := M2.out.cell 3 4 rfl rfl
  have o0 := M2.out.cell 2 0 rfl rfl; have o1 := M2.out.cell 2 1 rfl rfl; have o2 := M2.out.cell 2 2 rfl rfl; have o3 := M2.out.cell 2 3 rfl rfl; have o4 := M2.out.cell 2 4 rfl rfl
  go_wp2_with fail
  refine (look_any i (mT f i t) y (mP f i p q) (mL f i l) q n lo3 _).mono ?_
  rintro e v3 ⟨rfl, g3⟩
  rw [HL.out, hd2]
  have M3 := Lib.hid (M2.out.grown g3.out)
  clear s0 s1 s2 s3 s4 m0 m1 m2 m3 m4 o0 o1 o2 o3 o4 M2 g3
  have s0 := M3.out.cell 4 0 rfl rfl; have s1 := M3.out.cell 4 1 rfl rfl; have s2 := M3.out.cell 4 2 rfl rfl; have s3 := M3.out.cell 4 3 rfl rfl; have s4 := M3.out.cell 4 4 rfl rfl
  have sf0 := M3.out.free 4 0 rfl; have sf1 := M3.out.free 4 1 rfl; have sf2 := M3.out.free 4 2 rfl; have sf3 := M3.out.free 4 3 rfl; have sf4 := M3.out.free 4 4 rfl
  go_upto_region 5 with fail
  have M4 := Lib.hid (((((M3.out.set 4 0 (.int .i64 i) rfl).set 4 1 (.int .i64 (mT f i t)) rfl).set 4 2 (.int .i64 y) rfl).set 4 3 (.int .i64 q) rfl).set 4 4 (.int .i64 L) rfl)
  simp only [List.set_cons_succ, List.set_cons_zero] at M4
  generalize ((((((v3).setCell ⟨sb, 0, none⟩ (.int .i64 i)).setCell ⟨sb, 1, none⟩ (.int .i64 (mT f i t))).setCell ⟨sb, 2, none⟩ (.int .i64 y)).setCell ⟨sb, 3, none⟩ (.int .i64 q)).setCell ⟨sb, 4, none⟩ (.int .i64 L)) = v4 at *
  clear s0 s1 s2 s3 s4 sf0 sf1 sf2 sf3 sf4
  have s0 := M4.out.cell 4 0 rfl rfl; have s1 := M4.out.cell 4 1 rfl rfl; have s2 := M4.out.cell 4 2 rfl rfl; have s3 := M4.out.cell 4 3 rfl rfl; have s4 := M4.out.cell 4 4 rfl rfl
  have k0 := M4.out.cell 1 0 rfl rfl; have k1 := M4.out.cell 1 1 rfl rfl
  have kf0 := M4.out.free 1 0 rfl; have kf1 := M4.out.free 1 1 rfl
  have r0 := M4.out.cell 0 0 rfl rfl; have r1 := M4.out.cell 0 1 rfl rfl; have r2 := M4.out.cell 0 2 rfl rfl; have r3 := M4.out.cell 0 3 rfl rfl; have r4 := M4.out.cell 0 4 rfl rfl
  have rf0 := M4.out.free 0 0 rfl; have rf1 := M4.out.free 0 1 rfl; have rf2 := M4.out.free 0 2 rfl; have rf3 := M4.out.free 0 3 rfl; have rf4 := M4.out.free 0 4 rfl
  go_wp2
  go_region_held3 (fun w' => w'.cell? ⟨sb, 0, none⟩ = some (.int .i64 i) ∧ w'.cell? ⟨sb, 1, none⟩ = some (.int .i64 (mT f i t)) ∧ w'.cell? ⟨sb, 2, none⟩ = some (.int .i64 y) ∧ w'.cell? ⟨sb, 3, none⟩ = some (.int .i64 q) ∧ w'.cell? ⟨sb, 4, none⟩ = some (.int .i64 L)) (go_keep) ((go_at_call 54; refine (for_one n _).mono ?_; rintro e v5 ⟨rfl, g5⟩; have M5 := Lib.hid (M4.out.grown (gb_trans (by repeat (first | exact gb_refl _ _ | refine gb_drewN ?_ _ | refine gb_drew ?_ | refine gb_alloc ?_ _)) g5.out)); have c0 := M5.out.cell 4 0 rfl rfl; have c1 := M5.out.cell 4 1 rfl rfl; have c2 := M5.out.cell 4 2 rfl rfl; have c3 := M5.out.cell 4 3 rfl rfl; have c4 := M5.out.cell 4 4 rfl rfl; have kc0 := M5.out.cell 1 0 rfl rfl; have kc1 := M5.out.cell 1 1 rfl rfl; have kg0 := M5.out.free 1 0 rfl; have kg1 := M5.out.free 1 1 rfl; have rc0 := M5.out.cell 0 0 rfl rfl; have rc1 := M5.out.cell 0 1 rfl rfl; have rc2 := M5.out.cell 0 2 rfl rfl; have rc3 := M5.out.cell 0 3 rfl rfl; have rc4 := M5.out.cell 0 4 rfl rfl; have rg0 := M5.out.free 0 0 rfl; have rg1 := M5.out.free 0 1 rfl; have rg2 := M5.out.free 0 2 rfl; have rg3 := M5.out.free 0 3 rfl; have rg4 := M5.out.free 0 4 rfl))
  go_wp2
  have M6 := Lib.hid ((((((((M5.out.set 1 0 (.int .i64 2) rfl).set 1 1 (.int .i64 1) rfl)).set 0 0 (.int .i64 i) rfl).set 0 1 (.int .i64 (mT f i t)) rfl).set 0 2 (.int .i64 y) rfl).set 0 3 (.int .i64 q) rfl).set 0 4 (.int .i64 L) rfl)
  simp only [List.set_cons_succ, List.set_cons_zero] at M6
  generalize (((((((((v5).setCell ⟨kb, 0, none⟩ (.int .i64 2)).setCell ⟨kb, 1, none⟩ (.int .i64 1))).setCell ⟨rb, 0, none⟩ (.int .i64 i)).setCell ⟨rb, 1, none⟩ (.int .i64 (mT f i t))).setCell ⟨rb, 2, none⟩ (.int .i64 y)).setCell ⟨rb, 3, none⟩ (.int .i64 q)).setCell ⟨rb, 4, none⟩ (.int .i64 L)) = v6 at *
  clear s0 s1 s2 s3 s4 k0 k1 kf0 kf1 r0 r1 r2 r3 r4 rf0 rf1 rf2 rf3 rf4 c0 c1 c2 c3 c4 kc0 kc1 kg0 kg1 rc0 rc1 rc2 rc3 rc4 rg0 rg1 rg2 rg3 rg4
  have k0 := M6.out.cell 1 0 rfl rfl; have k1 := M6.out.cell 1 1 rfl rfl
  have r0 := M6.out.cell 0 0 rfl rfl; have r1 := M6.out.cell 0 1 rfl rfl; have r2 := M6.out.cell 0 2 rfl rfl; have r3 := M6.out.cell 0 3 rfl rfl; have r4 := M6.out.cell 0 4 rfl rfl
  refine bodyPost_ret (v := .tuple #[.agg #[.int .i64 2, .int .i64 1], .agg #[.int .i64 i, .int .i64 (mT f i t), .int .i64 y, .int .i64 q, .int .i64 L]]) ?_ rfl ⟨rfl, M6.out.grow⟩
  simp [results, Try.results62, go_sem, *]

theorem decide_any (f t y p l mi ms mp mq : Int) (mb : Bool) (i st pr q : Int) (b : Bool) (d n : Int) (lo : -9223372036854775808 ≤ t) (lo2 : -9223372036854775808 ≤ l) (w : World) :
    Calls Try.prog 62 #[.agg #[], .agg #[.int .i64 f, .int .i64 t, .int .i64 y, .int .i64 p, .int .i64 l], .agg #[.int .i64 mi, .int .i64 ms, .int .i64 mp, .int .i64 mq, .bool mb], .agg #[.int .i64 i, .int .i64 st, .int .i64 pr, .int .i64 q, .bool b], .int .i64 d, .int .i64 n] w fun e w' => e = .returned (.tuple #[.agg #[.int .i64 (dK ms st b n (lL (mP f i p q) q (mL f i l))), .int .i64 (dN ms st b n (lL (mP f i p q) q (mL f i l)))], .agg #[.int .i64 i, .int .i64 (mT f i t), .int .i64 y, .int .i64 (dP ms st b (mP f i p q) q), .int .i64 (dL ms st b (mL f i l) (lL (mP f i p q) q (mL f i l)))]]) ∧ Hid (w.grownBy w' none) := by
  by_cases h : ms < st ∨ b = true
  · rw [show dK ms st b n (lL (mP f i p q) q (mL f i l)) = 1 by unfold dK; rw [if_pos (by rcases h with h | h <;> simp [h])], show dN ms st b n (lL (mP f i p q) q (mL f i l)) = 0 by unfold dN; rw [if_pos (by rcases h with h | h <;> simp [h])], show dP ms st b (mP f i p q) q = mP f i p q by unfold dP; rw [if_pos h], show dL ms st b (mL f i l) (lL (mP f i p q) q (mL f i l)) = mL f i l by unfold dL; rw [if_pos h]]
    refine decide_quick f t y p l mi ms mp mq mb i st pr q b d n lo lo2 ?_ w
    by_cases h1 : ms < st
    · exact .inl h1
    · exact .inr ⟨h1, h.resolve_left h1⟩
  have h1 : ¬ ms < st := fun x => h (.inl x)
  have h2 : b = false := by cases b <;> simp_all
  rw [show dP ms st b (mP f i p q) q = q by unfold dP; rw [if_neg h], show dL ms st b (mL f i l) (lL (mP f i p q) q (mL f i l)) = lL (mP f i p q) q (mL f i l) by unfold dL; rw [if_neg h]]
  by_cases hs : n < lL (mP f i p q) q (mL f i l)
  · rw [show dK ms st b n (lL (mP f i p q) q (mL f i l)) = 1 by unfold dK; rw [if_pos (.inr (.inr hs))], show dN ms st b n (lL (mP f i p q) q (mL f i l)) = 0 by unfold dN; rw [if_pos (.inr (.inr hs))]]
    exact decide_stands f t y p l mi ms mp mq mb i st pr q b d n lo lo2 h1 h2 hs w
  · have h3 : ¬ (ms < st ∨ b = true ∨ n < lL (mP f i p q) q (mL f i l)) := fun x => x.elim h1 (fun x => x.elim (fun x => by rw [h2] at x; cases x) hs)
    rw [show dK ms st b n (lL (mP f i p q) q (mL f i l)) = 2 by unfold dK; rw [if_neg h3], show dN ms st b n (lL (mP f i p q) q (mL f i l)) = 1 by unfold dN; rw [if_neg h3]]
    exact decide_waits f t y p l mi ms mp mq mb i st pr q b d n lo lo2 h1 h2 hs w

/-- The first decision of a transaction. -/
theorem decide_new (mi ms mp mq : Int) (mb : Bool) (i st pr q : Int) (b : Bool) (d n : Int) (hi : 0 ≤ i) (w : World) :
    Calls Try.prog 62 #[.agg #[], .agg #[.int .i64 (-1), .int .i64 0, .int .i64 0, .int .i64 0, .int .i64 0], .agg #[.int .i64 mi, .int .i64 ms, .int .i64 mp, .int .i64 mq, .bool mb], .agg #[.int .i64 i, .int .i64 st, .int .i64 pr, .int .i64 q, .bool b], .int .i64 d, .int .i64 n] w fun e w' => e = .returned (.tuple #[.agg #[.int .i64 (dK ms st b n 1), .int .i64 (dN ms st b n 1)], .agg #[.int .i64 i, .int .i64 1, .int .i64 0, .int .i64 q, .int .i64 (dL ms st b 0 1)]]) ∧ Hid (w.grownBy w' none) := by
  have e1 : mT (-1) i 0 = 1 := by unfold mT; rw [if_neg (by omega)]
  have e2 : mP (-1) i 0 q = q := by unfold mP; rw [if_neg (by omega)]
  have e3 : mL (-1) i 0 = 0 := by unfold mL; rw [if_neg (by omega)]
  have e4 : lL q q 0 = 1 := by unfold lL; rw [if_pos rfl]; rfl
  have e5 : dP ms st b q q = q := by unfold dP; split <;> rfl
  have D := decide_any (-1) 0 0 0 0 mi ms mp mq mb i st pr q b d n (by omega) (by omega) w
  rw [e1, e2, e3, e4, e5] at D
  exact D

end Go.Proofs.Ytnaagcofgnmmlaa.gre
