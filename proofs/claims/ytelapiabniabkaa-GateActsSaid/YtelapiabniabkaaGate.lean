/- The contracts of package gate's small functions: whether a thread is there, a stamp and a thread in one number, and what is done by what is seen; when two sights are equal; the document's own answer (quarrelref10.What), too. -/
import Derived.Test.YtelapiabniabkaaRef05
import Derived.Test.YtelapiabniabkaaOwn
import Derived.Test.YtelapiabniabkaaWd
import Derived.Deep.CutRange
import Derived.Deep.DeepCutAuto
import Derived.Deep.OwnRows
namespace Go.Proofs.Ytelapiabniabkaa.gate
open Go Go.RowKit Go.Proofs.Ytelapiabniabkaa.base Go.Proofs.Ytelapiabniabkaa.ch Go.Proofs.Ytelapiabniabkaa.wd
set_option linter.unusedVariables false

@[go_sem] theorem eqSight (a0 b0 : Bool) (a1 a2 a3 b1 b2 b3 : Int) (w : World) : (Op.equalIn 10000 36 (.agg #[.bool a0, .int .i64 a1, .int .i64 a2, .int .i64 a3]) (.agg #[.bool b0, .int .i64 b1, .int .i64 b2, .int .i64 b3])).run Try.prog w = .ok (a0 == b0 && a1 == b1 && a2 == b2 && a3 == b3) w := by
  have u3 := Try.underlying3
  have ag3 := Try.isAgg3
  have z3 := Try.sizeOf3
  have u4 := Try.underlying4
  have ag4 := Try.isAgg4
  have z4 := Try.sizeOf4
  rw [show (10000 : Nat) = 9999 + 1 from rfl, run_equalIn_struct _ _ _ _ _ (by kernel_rfl) (by kernel_rfl)]
  simp only [Program.fieldsOf, Try.underlying36]
  go_simp
  have step : ∀ (a b : Int) (X : Result Bool) (Y : Bool), X = .ok Y w → (if a = b then X else .ok false w) = .ok (a == b && Y) w := by
    intro a b X Y h
    by_cases e : a = b
    · simp [e, h]
    · simp [e]
  have stepB : ∀ (a b : Bool) (X : Result Bool) (Y : Bool), X = .ok Y w → (if a = b then X else .ok false w) = .ok (a == b && Y) w := by
    intro a b X Y h
    by_cases e : a = b
    · simp [e, h]
    · simp [e]
  have last : ∀ (a b : Int), (if a = b then (Result.ok true w : Result Bool) else .ok false w) = .ok (a == b) w := by
    intro a b
    by_cases e : a = b <;> simp [e]
  simp only [Bool.and_assoc]
  refine stepB _ _ _ _ ?_
  iterate 2 refine step _ _ _ _ ?_
  exact last _ _

theorem has_nil (t : Int) (w : World) : Calls Try.prog 24 #[.pointer none, .int .i64 t] w fun e w' => e = .returned (.bool false) ∧ w = w' := by
  go_enter Try.func24, Try.ntmps24
  go_wp2
  go_ret
  exact ⟨rfl, rfl⟩

/-- Block g is a gate whose word is in block sw, and whose n pulses are in block pb. -/
abbrev GB (w : World) (g sw pb n : Nat) : Prop := Blk 64 w g ⟨[.pointer (some ⟨sw, 0, none⟩), .int .i64 0, .slice (some ⟨pb, 0, none⟩) n n]⟩

theorem has_in (g sw pb n : Nat) (t : Int) (h0 : 0 ≤ t) (h1 : t < (n : Int)) (w : World) (h : GB w g sw pb n) : Calls Try.prog 24 #[.pointer (some ⟨g, 0, none⟩), .int .i64 t] w fun e w' => e = .returned (.bool true) ∧ w = w' := by
  have c2 := h.at 2 rfl
  have hb := h.lt
  clear h
  go_enter Try.func24, Try.ntmps24
  go_wp2
  go_ret
  exact ⟨rfl, rfl⟩

theorem has_out (g sw pb n : Nat) (t : Int) (h0 : t < 0 ∨ (n : Int) ≤ t) (w : World) (h : GB w g sw pb n) : Calls Try.prog 24 #[.pointer (some ⟨g, 0, none⟩), .int .i64 t] w fun e w' => e = .returned (.bool false) ∧ w = w' := by
  have c2 := h.at 2 rfl
  have hb := h.lt
  clear h
  have h0' : t < 0 ∨ (0 ≤ t ∧ (n : Int) ≤ t) := by omega
  clear h0
  rcases h0' with h0 | ⟨h0, h1⟩
  · go_enter Try.func24, Try.ntmps24
    go_wp2
    go_ret
    exact ⟨rfl, rfl⟩
  · have hd : decide (t < (n : Int)) = false := by simpa using h1
    clear h1
    go_enter Try.func24, Try.ntmps24
    go_wp2
    go_ret
    exact ⟨rfl, rfl⟩

theorem together_any (s t : Int) (h0 : 0 ≤ s) (h1 : s ≤ 1099511627776) (h2 : 0 ≤ t) (h3 : t ≤ 6) (w : World) : Calls Try.prog 26 #[.int .i64 s, .int .i64 t] w fun e w' => e = .returned (.int .i64 (s * 6 + t + 1)) ∧ w = w' := by
  have e1 : s.tmod 1537228672809129301 = s := by rw [Int.tmod_eq_emod_of_nonneg h0]; omega
  have e2 : IntKind.i64.wrap (s * 6) = s * 6 := IntWalk.i64_in _ (by omega)
  have e3 : IntKind.i64.wrap (s * 6 + t) = s * 6 + t := IntWalk.i64_in _ (by omega)
  have e4 : IntKind.i64.wrap (s * 6 + t + 1) = s * 6 + t + 1 := IntWalk.i64_in _ (by omega)
  go_enter Try.func26, Try.ntmps26
  go_wp2
  go_ret
  exact ⟨rfl, rfl⟩

theorem apart_any (m s t : Int) (hm : m = s * 6 + t + 1) (h0 : 0 ≤ s) (h1 : s ≤ 1099511627776) (h2 : 0 ≤ t) (h3 : t < 6) (w : World) : Calls Try.prog 28 #[.int .i64 m] w fun e w' => e = .returned (.tuple #[.int .i64 s, .int .i64 t]) ∧ w = w' := by
  have e1 : IntKind.i64.wrap (m - 1) = m - 1 := IntWalk.i64_in _ (by omega)
  have e2 : (m - 1).tdiv 6 = s := by rw [Int.tdiv_eq_ediv_of_nonneg (by omega)]; omega
  have e3 : (m - 1).tmod 6 = t := by rw [Int.tmod_eq_emod_of_nonneg (by omega)]; omega
  have e4 : IntKind.i64.wrap s = s := IntWalk.i64_in _ (by omega)
  clear hm
  go_enter Try.func28, Try.ntmps28
  go_wp2
  go_ret2
  exact ⟨rfl, rfl⟩

/-- What is done where no elder one is seen. -/
def fi (b : Bool) : Int := if b = true then 1 else 2
theorem first_any (b : Bool) (w : World) : Calls Try.prog 29 #[.bool b] w fun e w' => e = .returned (.int .i64 (fi b)) ∧ w = w' := by
  cases b
  all_goals
    go_enter Try.func29, Try.ntmps29
    go_wp2
    go_ret
    exact ⟨rfl, rfl⟩

theorem what_none (f t y p l xs xt q st n : Int) (tr : Bool) (w : World) : Calls Try.prog 19 #[.agg #[.int .i64 f, .int .i64 t, .int .i64 y, .int .i64 p, .int .i64 l], .agg #[.bool false, .int .i64 xs, .int .i64 xt, .int .i64 q], .int .i64 st, .int .i64 n, .bool tr] w fun e w' => e = .returned (.tuple #[.int .i64 (fi tr), .agg #[.int .i64 f, .int .i64 t, .int .i64 y, .int .i64 p, .int .i64 l]]) ∧ Hid (w.grownBy w' none) := by
  go_enter Try.func19, Try.ntmps19
  go_upto_region 2 with fail
  have M2 := Lib.hid ((((Own.start w).alloc 45 [.int .i64 f, .int .i64 t, .int .i64 y, .int .i64 p, .int .i64 l]).alloc 36 [.bool false, .int .i64 xs, .int .i64 xt, .int .i64 q]).alloc 45 [.int .i64 0, .int .i64 0, .int .i64 0, .int .i64 0, .int .i64 0])
  simp only [size_alloc] at M2
  have s0 := M2.out.cell 2 0 rfl rfl; have s1 := M2.out.cell 2 1 rfl rfl; have s2 := M2.out.cell 2 2 rfl rfl; have s3 := M2.out.cell 2 3 rfl rfl; have s4 := M2.out.cell 2 4 rfl rfl
  have rf0 := M2.out.free 0 0 rfl; have rf1 := M2.out.free 0 1 rfl; have rf2 := M2.out.free 0 2 rfl; have rf3 := M2.out.free 0 3 rfl; have rf4 := M2.out.free 0 4 rfl
  have r0 := M2.out.cell 0 0 rfl rfl; have r1 := M2.out.cell 0 1 rfl rfl; have r2 := M2.out.cell 0 2 rfl rfl; have r3 := M2.out.cell 0 3 rfl rfl; have r4 := M2.out.cell 0 4 rfl rfl
  obtain ⟨e1, e1'⟩ := M2.out.ne' 0 2 rfl rfl (by decide)
  generalize w.heap.size + 1 + 1 = rb at *
  generalize ((w.alloc _).alloc _).alloc _ = v1 at *
  go_region_held3 (fun w' => w'.cell? ⟨w.heap.size, 0, none⟩ = some (.int .i64 f) ∧ w'.cell? ⟨w.heap.size, 1, none⟩ = some (.int .i64 t) ∧ w'.cell? ⟨w.heap.size, 2, none⟩ = some (.int .i64 y) ∧ w'.cell? ⟨w.heap.size, 3, none⟩ = some (.int .i64 p) ∧ w'.cell? ⟨w.heap.size, 4, none⟩ = some (.int .i64 l)) (go_keep) ((go_at_call 29; refine (first_any _ _).mono ?_; rintro e v3 ⟨rfl, rfl⟩))
  go_wp2
  have M4 := Lib.hid (((((M2.out.set 0 0 (.int .i64 f) rfl).set 0 1 (.int .i64 t) rfl).set 0 2 (.int .i64 y) rfl).set 0 3 (.int .i64 p) rfl).set 0 4 (.int .i64 l) rfl)
  simp only [List.set_cons_succ, List.set_cons_zero] at M4
  generalize ((((((v1).setCell ⟨rb, 0, none⟩ (.int .i64 f)).setCell ⟨rb, 1, none⟩ (.int .i64 t)).setCell ⟨rb, 2, none⟩ (.int .i64 y)).setCell ⟨rb, 3, none⟩ (.int .i64 p)).setCell ⟨rb, 4, none⟩ (.int .i64 l)) = v4 at *
  clear s0 s1 s2 s3 s4 r0 r1 r2 r3 r4 rf0 rf1 rf2 rf3 rf4
  have r0 := M4.out.cell 0 0 rfl rfl; have r1 := M4.out.cell 0 1 rfl rfl; have r2 := M4.out.cell 0 2 rfl rfl; have r3 := M4.out.cell 0 3 rfl rfl; have r4 := M4.out.cell 0 4 rfl rfl
  refine bodyPost_ret (v := .tuple #[.int .i64 (fi tr), .agg #[.int .i64 f, .int .i64 t, .int .i64 y, .int .i64 p, .int .i64 l]]) ?_ rfl ⟨rfl, M4.out.drew.grow⟩
  simp [results, Try.results19, go_sem, *]

theorem what_younger (f t y p l xs xt q st n : Int) (tr : Bool) (h : st < xs) (w : World) : Calls Try.prog 19 #[.agg #[.int .i64 f, .int .i64 t, .int .i64 y, .int .i64 p, .int .i64 l], .agg #[.bool true, .int .i64 xs, .int .i64 xt, .int .i64 q], .int .i64 st, .int .i64 n, .bool tr] w fun e w' => e = .returned (.tuple #[.int .i64 (fi tr), .agg #[.int .i64 f, .int .i64 t, .int .i64 y, .int .i64 p, .int .i64 l]]) ∧ Hid (w.grownBy w' none) := by
  have hd : decide (st < xs) = true := by simpa using h
  go_enter Try.func19, Try.ntmps19
  go_upto_region 2 with fail
  have M2 := Lib.hid ((((Own.start w).alloc 45 [.int .i64 f, .int .i64 t, .int .i64 y, .int .i64 p, .int .i64 l]).alloc 36 [.bool true, .int .i64 xs, .int .i64 xt, .int .i64 q]).alloc 45 [.int .i64 0, .int .i64 0, .int .i64 0, .int .i64 0, .int .i64 0])
  simp only [size_alloc] at M2
  have s0 := M2.out.cell 2 0 rfl rfl; have s1 := M2.out.cell 2 1 rfl rfl; have s2 := M2.out.cell 2 2 rfl rfl; have s3 := M2.out.cell 2 3 rfl rfl; have s4 := M2.out.cell 2 4 rfl rfl
  have rf0 := M2.out.free 0 0 rfl; have rf1 := M2.out.free 0 1 rfl; have rf2 := M2.out.free 0 2 rfl; have rf3 := M2.out.free 0 3 rfl; have rf4 := M2.out.free 0 4 rfl
  have r0 := M2.out.cell 0 0 rfl rfl; have r1 := M2.out.cell 0 1 rfl rfl; have r2 := M2.out.cell 0 2 rfl rfl; have r3 := M2.out.cell 0 3 rfl rfl; have r4 := M2.out.cell 0 4 rfl rfl
  obtain ⟨e1, e1'⟩ := M2.out.ne' 0 2 rfl rfl (by decide)
  generalize w.heap.size + 1 + 1 = rb at *
  generalize ((w.alloc _).alloc _).alloc _ = v1 at *
  go_region_held3 (fun w' => w'.cell? ⟨w.heap.size, 0, none⟩ = some (.int .i64 f) ∧ w'.cell? ⟨w.heap.size, 1, none⟩ = some (.int .i64 t) ∧ w'.cell? ⟨w.heap.size, 2, none⟩ = some (.int .i64 y) ∧ w'.cell? ⟨w.heap.size, 3, none⟩ = some (.int .i64 p) ∧ w'.cell? ⟨w.heap.size, 4, none⟩ = some (.int .i64 l)) (go_keep) ((go_at_call 29; refine (first_any _ _).mono ?_; rintro e v3 ⟨rfl, rfl⟩))
  go_wp2
  have M4 := Lib.hid (((((M2.out.set 0 0 (.int .i64 f) rfl).set 0 1 (.int .i64 t) rfl).set 0 2 (.int .i64 y) rfl).set 0 3 (.int .i64 p) rfl).set 0 4 (.int .i64 l) rfl)
  simp only [List.set_cons_succ, List.set_cons_zero] at M4
  generalize ((((((v1).setCell ⟨rb, 0, none⟩ (.int .i64 f)).setCell ⟨rb, 1, none⟩ (.int .i64 t)).setCell ⟨rb, 2, none⟩ (.int .i64 y)).setCell ⟨rb, 3, none⟩ (.int .i64 p)).setCell ⟨rb, 4, none⟩ (.int .i64 l)) = v4 at *
  clear s0 s1 s2 s3 s4 r0 r1 r2 r3 r4 rf0 rf1 rf2 rf3 rf4
  have r0 := M4.out.cell 0 0 rfl rfl; have r1 := M4.out.cell 0 1 rfl rfl; have r2 := M4.out.cell 0 2 rfl rfl; have r3 := M4.out.cell 0 3 rfl rfl; have r4 := M4.out.cell 0 4 rfl rfl
  refine bodyPost_ret (v := .tuple #[.int .i64 (fi tr), .agg #[.int .i64 f, .int .i64 t, .int .i64 y, .int .i64 p, .int .i64 l]]) ?_ rfl ⟨rfl, M4.out.drew.grow⟩
  simp [results, Try.results19, go_sem, *]

theorem what_same (f t y p l xs xt q n : Int) (tr : Bool) (w : World) : Calls Try.prog 19 #[.agg #[.int .i64 f, .int .i64 t, .int .i64 y, .int .i64 p, .int .i64 l], .agg #[.bool true, .int .i64 xs, .int .i64 xt, .int .i64 q], .int .i64 xs, .int .i64 n, .bool tr] w fun e w' => e = .returned (.tuple #[.int .i64 2, .agg #[.int .i64 f, .int .i64 t, .int .i64 y, .int .i64 p, .int .i64 l]]) ∧ Hid (w.grownBy w' none) := by
  have hd : decide (xs < xs) = false := by simp
  go_enter Try.func19, Try.ntmps19
  go_upto_region 4 with fail
  have M2 := Lib.hid ((((Own.start w).alloc 45 [.int .i64 f, .int .i64 t, .int .i64 y, .int .i64 p, .int .i64 l]).alloc 36 [.bool true, .int .i64 xs, .int .i64 xt, .int .i64 q]).alloc 45 [.int .i64 0, .int .i64 0, .int .i64 0, .int .i64 0, .int .i64 0])
  simp only [size_alloc] at M2
  have s0 := M2.out.cell 2 0 rfl rfl; have s1 := M2.out.cell 2 1 rfl rfl; have s2 := M2.out.cell 2 2 rfl rfl; have s3 := M2.out.cell 2 3 rfl rfl; have s4 := M2.out.cell 2 4 rfl rfl
  have rf0 := M2.out.free 0 0 rfl; have rf1 := M2.out.free 0 1 rfl; have rf2 := M2.out.free 0 2 rfl; have rf3 := M2.out.free 0 3 rfl; have rf4 := M2.out.free 0 4 rfl
  have r0 := M2.out.cell 0 0 rfl rfl; have r1 := M2.out.cell 0 1 rfl rfl; have r2 := M2.out.cell 0 2 rfl rfl; have r3 := M2.out.cell 0 3 rfl rfl; have r4 := M2.out.cell 0 4 rfl rfl
  obtain ⟨e1, e1'⟩ := M2.out.ne' 0 2 rfl rfl (by decide)
  generalize w.heap.size + 1 + 1 = rb at *
  generalize ((w.alloc _).alloc _).alloc _ = v1 at *
  go_region
  go_wp2
  have M4 := Lib.hid (((((M2.out.set 0 0 (.int .i64 f) rfl).set 0 1 (.int .i64 t) rfl).set 0 2 (.int .i64 y) rfl).set 0 3 (.int .i64 p) rfl).set 0 4 (.int .i64 l) rfl)
  simp only [List.set_cons_succ, List.set_cons_zero] at M4
  generalize ((((((v1).setCell ⟨rb, 0, none⟩ (.int .i64 f)).setCell ⟨rb, 1, none⟩ (.int .i64 t)).setCell ⟨rb, 2, none⟩ (.int .i64 y)).setCell ⟨rb, 3, none⟩ (.int .i64 p)).setCell ⟨rb, 4, none⟩ (.int .i64 l)) = v4 at *
  clear s0 s1 s2 s3 s4 r0 r1 r2 r3 r4 rf0 rf1 rf2 rf3 rf4
  have r0 := M4.out.cell 0 0 rfl rfl; have r1 := M4.out.cell 0 1 rfl rfl; have r2 := M4.out.cell 0 2 rfl rfl; have r3 := M4.out.cell 0 3 rfl rfl; have r4 := M4.out.cell 0 4 rfl rfl
  refine bodyPost_ret (v := .tuple #[.int .i64 (2), .agg #[.int .i64 f, .int .i64 t, .int .i64 y, .int .i64 p, .int .i64 l]]) ?_ rfl ⟨rfl, M4.out.drew.grow⟩
  simp [results, Try.results19, go_sem, *]

theorem what_goes (f t y p l xs xt q st n : Int) (tr : Bool) (lo : -9223372036854775808 ≤ t) (lo2 : -9223372036854775808 ≤ l) (h : xs < st) (h2 : n < lL (mP f xs p q) q (mL f xs l)) (w : World) : Calls Try.prog 19 #[.agg #[.int .i64 f, .int .i64 t, .int .i64 y, .int .i64 p, .int .i64 l], .agg #[.bool true, .int .i64 xs, .int .i64 xt, .int .i64 q], .int .i64 st, .int .i64 n, .bool tr] w fun e w' => e = .returned (.tuple #[.int .i64 (2), .agg #[.int .i64 xs, .int .i64 (mT f xs t), .int .i64 y, .int .i64 q, .int .i64 (lL (mP f xs p q) q (mL f xs l))]]) ∧ Hid (w.grownBy w' none) := by
  have hd : decide (st < xs) = false := by simp; omega
  have hd1 : (xs == st) = false := by simp; omega
  have hd2 : decide (n < lL (mP f xs p q) q (mL f xs l)) = true := by simpa using h2
  have lo3 := mL_lo f xs l lo2
  generalize hL : lL (mP f xs p q) q (mL f xs l) = L at *
  have HL := Lib.hid hL
  clear h h2 hL
  go_enter Try.func19, Try.ntmps19
  go_upto_region 5 with fail
  have M2 := Lib.hid ((((Own.start w).alloc 45 [.int .i64 f, .int .i64 t, .int .i64 y, .int .i64 p, .int .i64 l]).alloc 36 [.bool true, .int .i64 xs, .int .i64 xt, .int .i64 q]).alloc 45 [.int .i64 0, .int .i64 0, .int .i64 0, .int .i64 0, .int .i64 0])
  simp only [size_alloc] at M2
  have s0 := M2.out.cell 2 0 rfl rfl; have s1 := M2.out.cell 2 1 rfl rfl; have s2 := M2.out.cell 2 2 rfl rfl; have s3 := M2.out.cell 2 3 rfl rfl; have s4 := M2.out.cell 2 4 rfl rfl
  have rf0 := M2.out.free 0 0 rfl; have rf1 := M2.out.free 0 1 rfl; have rf2 := M2.out.free 0 2 rfl; have rf3 := M2.out.free 0 3 rfl; have rf4 := M2.out.free 0 4 rfl
  have r0 := M2.out.cell 0 0 rfl rfl; have r1 := M2.out.cell 0 1 rfl rfl; have r2 := M2.out.cell 0 2 rfl rfl; have r3 := M2.out.cell 0 3 rfl rfl; have r4 := M2.out.cell 0 4 rfl rfl
  obtain ⟨e1, e1'⟩ := M2.out.ne' 0 2 rfl rfl (by decide)
  generalize w.heap.size + 1 + 1 = rb at *
  generalize ((w.alloc _).alloc _).alloc _ = v1 at *
  have x0 := M2.out.cell 1 0 rfl rfl; have x1 := M2.out.cell 1 1 rfl rfl; have x2 := M2.out.cell 1 2 rfl rfl; have x3 := M2.out.cell 1 3 rfl rfl
  go_wp2_with fail
  refine (met_any f t y p l xs 0 0 q _ lo _).mono ?_
  rintro e v2 ⟨rfl, g⟩
  have M3 := Lib.hid (M2.out.grown g.out)
  clear s0 s1 s2 s3 s4 x0 x1 x2 x3 r0 r1 r2 r3 r4 rf0 rf1 rf2 rf3 rf4 g M2
  have x0 := M3.out.cell 1 0 rfl rfl; have x1 := M3.out.cell 1 1 rfl rfl; have x2 := M3.out.cell 1 2 rfl rfl; have x3 := M3.out.cell 1 3 rfl rfl
  have s0 := M3.out.cell 2 0 rfl rfl; have s1 := M3.out.cell 2 1 rfl rfl; have s2 := M3.out.cell 2 2 rfl rfl; have s3 := M3.out.cell 2 3 rfl rfl; have s4 := M3.out.cell 2 4 rfl rfl
  have sf0 := M3.out.free 2 0 rfl; have sf1 := M3.out.free 2 1 rfl; have sf2 := M3.out.free 2 2 rfl; have sf3 := M3.out.free 2 3 rfl; have sf4 := M3.out.free 2 4 rfl
  obtain ⟨e2, e2'⟩ := M3.out.ne' 1 2 rfl rfl (by decide)
  go_upto_region 6 with fail
  have M4 := Lib.hid (((((M3.out.set 2 0 (.int .i64 xs) rfl).set 2 1 (.int .i64 (mT f xs t)) rfl).set 2 2 (.int .i64 y) rfl).set 2 3 (.int .i64 (mP f xs p q)) rfl).set 2 4 (.int .i64 (mL f xs l)) rfl)
  simp only [List.set_cons_succ, List.set_cons_zero] at M4
  generalize ((((((v2).setCell ⟨w.heap.size, 0, none⟩ (.int .i64 xs)).setCell ⟨w.heap.size, 1, none⟩ (.int .i64 (mT f xs t))).setCell ⟨w.heap.size, 2, none⟩ (.int .i64 y)).setCell ⟨w.heap.size, 3, none⟩ (.int .i64 (mP f xs p q))).setCell ⟨w.heap.size, 4, none⟩ (.int .i64 (mL f xs l))) = v3 at *
  clear s0 s1 s2 s3 s4 sf0 sf1 sf2 sf3 sf4 x0 x1 x2 x3 M3
  have x0 := M4.out.cell 1 0 rfl rfl; have x1 := M4.out.cell 1 1 rfl rfl; have x2 := M4.out.cell 1 2 rfl rfl; have x3 := M4.out.cell 1 3 rfl rfl
  have s0 := M4.out.cell 2 0 rfl rfl; have s1 := M4.out.cell 2 1 rfl rfl; have s2 := M4.out.cell 2 2 rfl rfl; have s3 := M4.out.cell 2 3 rfl rfl; have s4 := M4.out.cell 2 4 rfl rfl
  go_wp2_with fail
  refine (look_any xs (mT f xs t) y (mP f xs p q) (mL f xs l) q n lo3 _).mono ?_
  rintro e v4 ⟨rfl, g⟩
  rw [HL.out, hd2]
  have M5 := Lib.hid (M4.out.grown g.out)
  clear s0 s1 s2 s3 s4 x0 x1 x2 x3 g M4
  have s0 := M5.out.cell 2 0 rfl rfl; have s1 := M5.out.cell 2 1 rfl rfl; have s2 := M5.out.cell 2 2 rfl rfl; have s3 := M5.out.cell 2 3 rfl rfl; have s4 := M5.out.cell 2 4 rfl rfl
  have sf0 := M5.out.free 2 0 rfl; have sf1 := M5.out.free 2 1 rfl; have sf2 := M5.out.free 2 2 rfl; have sf3 := M5.out.free 2 3 rfl; have sf4 := M5.out.free 2 4 rfl
  go_upto_region 8 with fail
  have M6 := Lib.hid (((((M5.out.set 2 0 (.int .i64 xs) rfl).set 2 1 (.int .i64 (mT f xs t)) rfl).set 2 2 (.int .i64 y) rfl).set 2 3 (.int .i64 q) rfl).set 2 4 (.int .i64 L) rfl)
  simp only [List.set_cons_succ, List.set_cons_zero] at M6
  generalize ((((((v4).setCell ⟨w.heap.size, 0, none⟩ (.int .i64 xs)).setCell ⟨w.heap.size, 1, none⟩ (.int .i64 (mT f xs t))).setCell ⟨w.heap.size, 2, none⟩ (.int .i64 y)).setCell ⟨w.heap.size, 3, none⟩ (.int .i64 q)).setCell ⟨w.heap.size, 4, none⟩ (.int .i64 L)) = v5 at *
  clear s0 s1 s2 s3 s4 sf0 sf1 sf2 sf3 sf4 M5
  have s0 := M6.out.cell 2 0 rfl rfl; have s1 := M6.out.cell 2 1 rfl rfl; have s2 := M6.out.cell 2 2 rfl rfl; have s3 := M6.out.cell 2 3 rfl rfl; have s4 := M6.out.cell 2 4 rfl rfl
  have r0 := M6.out.cell 0 0 rfl rfl; have r1 := M6.out.cell 0 1 rfl rfl; have r2 := M6.out.cell 0 2 rfl rfl; have r3 := M6.out.cell 0 3 rfl rfl; have r4 := M6.out.cell 0 4 rfl rfl
  have rf0 := M6.out.free 0 0 rfl; have rf1 := M6.out.free 0 1 rfl; have rf2 := M6.out.free 0 2 rfl; have rf3 := M6.out.free 0 3 rfl; have rf4 := M6.out.free 0 4 rfl
  go_wp2
  go_region
  all_goals
    go_wp2
    have M7 := Lib.hid (((((M6.out.set 0 0 (.int .i64 xs) rfl).set 0 1 (.int .i64 (mT f xs t)) rfl).set 0 2 (.int .i64 y) rfl).set 0 3 (.int .i64 q) rfl).set 0 4 (.int .i64 L) rfl)
    simp only [List.set_cons_succ, List.set_cons_zero] at M7
    generalize ((((((v5).setCell ⟨rb, 0, none⟩ (.int .i64 xs)).setCell ⟨rb, 1, none⟩ (.int .i64 (mT f xs t))).setCell ⟨rb, 2, none⟩ (.int .i64 y)).setCell ⟨rb, 3, none⟩ (.int .i64 q)).setCell ⟨rb, 4, none⟩ (.int .i64 L)) = v6 at *
    clear s0 s1 s2 s3 s4 r0 r1 r2 r3 r4 rf0 rf1 rf2 rf3 rf4
    have r0 := M7.out.cell 0 0 rfl rfl; have r1 := M7.out.cell 0 1 rfl rfl; have r2 := M7.out.cell 0 2 rfl rfl; have r3 := M7.out.cell 0 3 rfl rfl; have r4 := M7.out.cell 0 4 rfl rfl
    refine bodyPost_ret (v := .tuple #[.int .i64 2, .agg #[.int .i64 xs, .int .i64 (mT f xs t), .int .i64 y, .int .i64 q, .int .i64 L]]) ?_ rfl ⟨rfl, M7.out.drew.grow⟩
    simp [results, Try.results19, go_sem, *]

theorem what_stays (f t y p l xs xt q st n : Int) (tr : Bool) (lo : -9223372036854775808 ≤ t) (lo2 : -9223372036854775808 ≤ l) (h : xs < st) (h2 : ¬ n < lL (mP f xs p q) q (mL f xs l)) (w : World) : Calls Try.prog 19 #[.agg #[.int .i64 f, .int .i64 t, .int .i64 y, .int .i64 p, .int .i64 l], .agg #[.bool true, .int .i64 xs, .int .i64 xt, .int .i64 q], .int .i64 st, .int .i64 n, .bool tr] w fun e w' => e = .returned (.tuple #[.int .i64 (3), .agg #[.int .i64 xs, .int .i64 (mT f xs t), .int .i64 y, .int .i64 q, .int .i64 (lL (mP f xs p q) q (mL f xs l))]]) ∧ Hid (w.grownBy w' none) := by
  have hd : decide (st < xs) = false := by simp; omega
  have hd1 : (xs == st) = false := by simp; omega
  have hd2 : decide (n < lL (mP f xs p q) q (mL f xs l)) = false := by simpa using h2
  have lo3 := mL_lo f xs l lo2
  generalize hL : lL (mP f xs p q) q (mL f xs l) = L at *
  have HL := Lib.hid hL
  clear h h2 hL
  go_enter Try.func19, Try.ntmps19
  go_upto_region 5 with fail
  have M2 := Lib.hid ((((Own.start w).alloc 45 [.int .i64 f, .int .i64 t, .int .i64 y, .int .i64 p, .int .i64 l]).alloc 36 [.bool true, .int .i64 xs, .int .i64 xt, .int .i64 q]).alloc 45 [.int .i64 0, .int .i64 0, .int .i64 0, .int .i64 0, .int .i64 0])
  simp only [size_alloc] at M2
  have s0 := M2.out.cell 2 0 rfl rfl; have s1 := M2.out.cell 2 1 rfl rfl; have s2 := M2.out.cell 2 2 rfl rfl; have s3 := M2.out.cell 2 3 rfl rfl; have s4 := M2.out.cell 2 4 rfl rfl
  have rf0 := M2.out.free 0 0 rfl; have rf1 := M2.out.free 0 1 rfl; have rf2 := M2.out.free 0 2 rfl; have rf3 := M2.out.free 0 3 rfl; have rf4 := M2.out.free 0 4 rfl
  have r0 := M2.out.cell 0 0 rfl rfl; have r1 := M2.out.cell 0 1 rfl rfl; have r2 := M2.out.cell 0 2 rfl rfl; have r3 := M2.out.cell 0 3 rfl rfl; have r4 := M2.out.cell 0 4 rfl rfl
  obtain ⟨e1, e1'⟩ := M2.out.ne' 0 2 rfl rfl (by decide)
  generalize w.heap.size + 1 + 1 = rb at *
  generalize ((w.alloc _).alloc _).alloc _ = v1 at *
  have x0 := M2.out.cell 1 0 rfl rfl; have x1 := M2.out.cell 1 1 rfl rfl; have x2 := M2.out.cell 1 2 rfl rfl; have x3 := M2.out.cell 1 3 rfl rfl
  go_wp2_with fail
  refine (met_any f t y p l xs 0 0 q _ lo _).mono ?_
  rintro e v2 ⟨rfl, g⟩
  have M3 := Lib.hid (M2.out.grown g.out)
  clear s0 s1 s2 s3 s4 x0 x1 x2 x3 r0 r1 r2 r3 r4 rf0 rf1 rf2 rf3 rf4 g M2
  have x0 := M3.out.cell 1 0 rfl rfl; have x1 := M3.out.cell 1 1 rfl rfl; have x2 := M3.out.cell 1 2 rfl rfl; have x3 := M3.out.cell 1 3 rfl rfl
  have s0 := M3.out.cell 2 0 rfl rfl; have s1 := M3.out.cell 2 1 rfl rfl; have s2 := M3.out.cell 2 2 rfl rfl; have s3 := M3.out.cell 2 3 rfl rfl; have s4 := M3.out.cell 2 4 rfl rfl
  have sf0 := M3.out.free 2 0 rfl; have sf1 := M3.out.free 2 1 rfl; have sf2 := M3.out.free 2 2 rfl; have sf3 := M3.out.free 2 3 rfl; have sf4 := M3.out.free 2 4 rfl
  obtain ⟨e2, e2'⟩ := M3.out.ne' 1 2 rfl rfl (by decide)
  go_upto_region 6 with fail
  have M4 := Lib.hid (((((M3.out.set 2 0 (.int .i64 xs) rfl).set 2 1 (.int .i64 (mT f xs t)) rfl).set 2 2 (.int .i64 y) rfl).set 2 3 (.int .i64 (mP f xs p q)) rfl).set 2 4 (.int .i64 (mL f xs l)) rfl)
  simp only [List.set_cons_succ, List.set_cons_zero] at M4
  generalize ((((((v2).setCell ⟨w.heap.size, 0, none⟩ (.int .i64 xs)).setCell ⟨w.heap.size, 1, none⟩ (.int .i64 (mT f xs t))).setCell ⟨w.heap.size, 2, none⟩ (.int .i64 y)).setCell ⟨w.heap.size, 3, none⟩ (.int .i64 (mP f xs p q))).setCell ⟨w.heap.size, 4, none⟩ (.int .i64 (mL f xs l))) = v3 at *
  clear s0 s1 s2 s3 s4 sf0 sf1 sf2 sf3 sf4 x0 x1 x2 x3 M3
  have x0 := M4.out.cell 1 0 rfl rfl; have x1 := M4.out.cell 1 1 rfl rfl; have x2 := M4.out.cell 1 2 rfl rfl; have x3 := M4.out.cell 1 3 rfl rfl
  have s0 := M4.out.cell 2 0 rfl rfl; have s1 := M4.out.cell 2 1 rfl rfl; have s2 := M4.out.cell 2 2 rfl rfl; have s3 := M4.out.cell 2 3 rfl rfl; have s4 := M4.out.cell 2 4 rfl rfl
  go_wp2_with fail
  refine (look_any xs (mT f xs t) y (mP f xs p q) (mL f xs l) q n lo3 _).mono ?_
  rintro e v4 ⟨rfl, g⟩
  rw [HL.out, hd2]
  have M5 := Lib.hid (M4.out.grown g.out)
  clear s0 s1 s2 s3 s4 x0 x1 x2 x3 g M4
  have s0 := M5.out.cell 2 0 rfl rfl; have s1 := M5.out.cell 2 1 rfl rfl; have s2 := M5.out.cell 2 2 rfl rfl; have s3 := M5.out.cell 2 3 rfl rfl; have s4 := M5.out.cell 2 4 rfl rfl
  have sf0 := M5.out.free 2 0 rfl; have sf1 := M5.out.free 2 1 rfl; have sf2 := M5.out.free 2 2 rfl; have sf3 := M5.out.free 2 3 rfl; have sf4 := M5.out.free 2 4 rfl
  go_upto_region 9 with fail
  have M6 := Lib.hid (((((M5.out.set 2 0 (.int .i64 xs) rfl).set 2 1 (.int .i64 (mT f xs t)) rfl).set 2 2 (.int .i64 y) rfl).set 2 3 (.int .i64 q) rfl).set 2 4 (.int .i64 L) rfl)
  simp only [List.set_cons_succ, List.set_cons_zero] at M6
  generalize ((((((v4).setCell ⟨w.heap.size, 0, none⟩ (.int .i64 xs)).setCell ⟨w.heap.size, 1, none⟩ (.int .i64 (mT f xs t))).setCell ⟨w.heap.size, 2, none⟩ (.int .i64 y)).setCell ⟨w.heap.size, 3, none⟩ (.int .i64 q)).setCell ⟨w.heap.size, 4, none⟩ (.int .i64 L)) = v5 at *
  clear s0 s1 s2 s3 s4 sf0 sf1 sf2 sf3 sf4 M5
  have s0 := M6.out.cell 2 0 rfl rfl; have s1 := M6.out.cell 2 1 rfl rfl; have s2 := M6.out.cell 2 2 rfl rfl; have s3 := M6.out.cell 2 3 rfl rfl; have s4 := M6.out.cell 2 4 rfl rfl
  have r0 := M6.out.cell 0 0 rfl rfl; have r1 := M6.out.cell 0 1 rfl rfl; have r2 := M6.out.cell 0 2 rfl rfl; have r3 := M6.out.cell 0 3 rfl rfl; have r4 := M6.out.cell 0 4 rfl rfl
  have rf0 := M6.out.free 0 0 rfl; have rf1 := M6.out.free 0 1 rfl; have rf2 := M6.out.free 0 2 rfl; have rf3 := M6.out.free 0 3 rfl; have rf4 := M6.out.free 0 4 rfl
  go_wp2
  go_region
  all_goals
    go_wp2
    have M7 := Lib.hid (((((M6.out.set 0 0 (.int .i64 xs) rfl).set 0 1 (.int .i64 (mT f xs t)) rfl).set 0 2 (.int .i64 y) rfl).set 0 3 (.int .i64 q) rfl).set 0 4 (.int .i64 L) rfl)
    simp only [List.set_cons_succ, List.set_cons_zero] at M7
    generalize ((((((v5).setCell ⟨rb, 0, none⟩ (.int .i64 xs)).setCell ⟨rb, 1, none⟩ (.int .i64 (mT f xs t))).setCell ⟨rb, 2, none⟩ (.int .i64 y)).setCell ⟨rb, 3, none⟩ (.int .i64 q)).setCell ⟨rb, 4, none⟩ (.int .i64 L)) = v6 at *
    clear s0 s1 s2 s3 s4 r0 r1 r2 r3 r4 rf0 rf1 rf2 rf3 rf4
    have r0 := M7.out.cell 0 0 rfl rfl; have r1 := M7.out.cell 0 1 rfl rfl; have r2 := M7.out.cell 0 2 rfl rfl; have r3 := M7.out.cell 0 3 rfl rfl; have r4 := M7.out.cell 0 4 rfl rfl
    refine bodyPost_ret (v := .tuple #[.int .i64 3, .agg #[.int .i64 xs, .int .i64 (mT f xs t), .int .i64 y, .int .i64 q, .int .i64 L]]) ?_ rfl ⟨rfl, M7.out.drew.grow⟩
    simp [results, Try.results19, go_sem, *]

/-- What is done where a senior of stamp xs was seen or not (xb), by one of stamp st, where a look told L; and the state behind it. -/
def wK (xb : Bool) (xs st : Int) (tr : Bool) (n L : Int) : Int := if xb = true ∧ xs < st then (if n < L then 2 else 3) else if xb = true ∧ xs = st then 2 else fi tr
def wI (xb : Bool) (xs st : Int) (a b : Int) : Int := if xb = true ∧ xs < st then a else b

theorem what_any (f t y p l : Int) (xb : Bool) (xs xt q st n : Int) (tr : Bool) (lo : -9223372036854775808 ≤ t) (lo2 : -9223372036854775808 ≤ l) (w : World) : Calls Try.prog 19 #[.agg #[.int .i64 f, .int .i64 t, .int .i64 y, .int .i64 p, .int .i64 l], .agg #[.bool xb, .int .i64 xs, .int .i64 xt, .int .i64 q], .int .i64 st, .int .i64 n, .bool tr] w fun e w' => e = .returned (.tuple #[.int .i64 (wK xb xs st tr n (lL (mP f xs p q) q (mL f xs l))), .agg #[.int .i64 (wI xb xs st xs f), .int .i64 (wI xb xs st (mT f xs t) t), .int .i64 y, .int .i64 (wI xb xs st q p), .int .i64 (wI xb xs st (lL (mP f xs p q) q (mL f xs l)) l)]]) ∧ Hid (w.grownBy w' none) := by
  by_cases h : xb = true ∧ xs < st
  · simp only [wK, wI, if_pos h]
    obtain ⟨rfl, h1⟩ := h
    by_cases h2 : n < lL (mP f xs p q) q (mL f xs l)
    · rw [if_pos h2]
      exact what_goes f t y p l xs xt q st n tr lo lo2 h1 h2 w
    · rw [if_neg h2]
      exact what_stays f t y p l xs xt q st n tr lo lo2 h1 h2 w
  · simp only [wK, wI, if_neg h]
    cases xb
    · rw [if_neg (by simp)]
      exact what_none f t y p l xs xt q st n tr w
    · have h3 : ¬ xs < st := fun e => h ⟨rfl, e⟩
      by_cases h2 : xs = st
      · subst h2
        rw [if_pos ⟨rfl, rfl⟩]
        exact what_same f t y p l xs xt q n tr w
      · rw [if_neg (fun e => h2 e.2)]
        exact what_younger f t y p l xs xt q st n tr (by omega) w

theorem refwhat_elder (b : Nat) (f t y p l xs q st n : Int) (tr : Bool) (lo : -9223372036854775808 ≤ t) (lo2 : -9223372036854775808 ≤ l) (h : xs < st) (w : World) (hs : RS w b f t y p l) :
    Calls Try.prog 21 #[.pointer (some ⟨b, 0, none⟩), .bool true, .int .i64 xs, .int .i64 q, .int .i64 st, .int .i64 n, .bool tr] w fun e w' => e = .returned (.int .i64 (if n < lL (mP f xs p q) q (mL f xs l) then 2 else 3)) ∧ Hid (RS w' b xs (mT f xs t) y q (lL (mP f xs p q) q (mL f xs l))) ∧ Hid (w.grownBy w' (some b)) := by
  have hd : decide (xs < st) = true := by simpa using h
  have lo3 := mL_lo f xs l lo2
  generalize hL : lL (mP f xs p q) q (mL f xs l) = L at *
  have HL := Lib.hid hL
  clear h hL
  have H := Lib.hid hs
  clear hs
  by_cases h2 : n < L
  · have hd2 : decide (n < L) = true := by simpa using h2
    rw [if_pos h2]
    clear h2
    go_enter Try.func21, Try.ntmps21
    go_wp2_with fail
    refine (refmet_any b f t y p l xs q lo _ H.out).mono ?_
    rintro e v1 ⟨rfl, V, g⟩
    go_wp2_with fail
    refine (reflook_any b xs (mT f xs t) y (mP f xs p q) (mL f xs l) q n lo3 _ V.out).mono ?_
    rintro e v2 ⟨rfl, V2, g2⟩
    rw [HL.out] at V2 ⊢
    rw [hd2]
    go_wp2
    go_ret
    exact ⟨rfl, V2.out, gb_trans g.out g2.out⟩
  · have hd2 : decide (n < L) = false := by simpa using h2
    rw [if_neg h2]
    clear h2
    go_enter Try.func21, Try.ntmps21
    go_wp2_with fail
    refine (refmet_any b f t y p l xs q lo _ H.out).mono ?_
    rintro e v1 ⟨rfl, V, g⟩
    go_wp2_with fail
    refine (reflook_any b xs (mT f xs t) y (mP f xs p q) (mL f xs l) q n lo3 _ V.out).mono ?_
    rintro e v2 ⟨rfl, V2, g2⟩
    rw [HL.out] at V2 ⊢
    rw [hd2]
    go_wp2
    go_ret
    exact ⟨rfl, V2.out, gb_trans g.out g2.out⟩

theorem refwhat_none (b : Nat) (xs q st n : Int) (tr : Bool) (w : World) :
    Calls Try.prog 21 #[.pointer (some ⟨b, 0, none⟩), .bool false, .int .i64 xs, .int .i64 q, .int .i64 st, .int .i64 n, .bool tr] w fun e w' => e = .returned (.int .i64 (fi tr)) ∧ w = w' := by
  cases tr
  all_goals
    go_enter Try.func21, Try.ntmps21
    go_wp2
    go_ret
    exact ⟨rfl, rfl⟩

theorem refwhat_same (b : Nat) (xs q n : Int) (tr : Bool) (w : World) :
    Calls Try.prog 21 #[.pointer (some ⟨b, 0, none⟩), .bool true, .int .i64 xs, .int .i64 q, .int .i64 xs, .int .i64 n, .bool tr] w fun e w' => e = .returned (.int .i64 2) ∧ w = w' := by
  have hd : decide (xs < xs) = false := by simp
  cases tr
  all_goals
    go_enter Try.func21, Try.ntmps21
    go_wp2
    go_ret
    exact ⟨rfl, rfl⟩

theorem refwhat_younger (b : Nat) (xs q st n : Int) (tr : Bool) (h : st < xs) (w : World) :
    Calls Try.prog 21 #[.pointer (some ⟨b, 0, none⟩), .bool true, .int .i64 xs, .int .i64 q, .int .i64 st, .int .i64 n, .bool tr] w fun e w' => e = .returned (.int .i64 (fi tr)) ∧ w = w' := by
  have hd : decide (xs < st) = false := by simp; omega
  have hd1 : (xs == st) = false := by simp; omega
  clear h
  cases tr
  all_goals
    go_enter Try.func21, Try.ntmps21
    go_wp2
    go_ret
    exact ⟨rfl, rfl⟩

theorem refwhat_any (b : Nat) (f t y p l : Int) (xb : Bool) (xs xt q st n : Int) (tr : Bool) (lo : -9223372036854775808 ≤ t) (lo2 : -9223372036854775808 ≤ l) (w : World) (hs : RS w b f t y p l) : Calls Try.prog 21 #[.pointer (some ⟨b, 0, none⟩), .bool xb, .int .i64 xs, .int .i64 q, .int .i64 st, .int .i64 n, .bool tr] w fun e w' => e = .returned (.int .i64 (wK xb xs st tr n (lL (mP f xs p q) q (mL f xs l)))) ∧ Hid (RS w' b ((wI xb xs st xs f)) ((wI xb xs st (mT f xs t) t)) y ((wI xb xs st q p)) ((wI xb xs st (lL (mP f xs p q) q (mL f xs l)) l))) ∧ Hid (w.grownBy w' (some b)) := by
  by_cases h : xb = true ∧ xs < st
  · simp only [wK, wI, if_pos h]
    obtain ⟨rfl, h1⟩ := h
    exact refwhat_elder b f t y p l xs q st n tr lo lo2 h1 w hs
  · simp only [wK, wI, if_neg h]
    have same : ∀ (K : Int) (v : Ending) (w' : World), v = .returned (.int .i64 K) ∧ w = w' → v = .returned (.int .i64 K) ∧ Hid (RS w' b f t y p l) ∧ Hid (w.grownBy w' (some b)) := by
      rintro K v w' ⟨rfl, rfl⟩
      exact ⟨rfl, hs, gb_refl _ _⟩
    cases xb
    · rw [if_neg (by simp)]
      exact (refwhat_none b xs q st n tr w).mono (same _)
    · have h3 : ¬ xs < st := fun e => h ⟨rfl, e⟩
      by_cases h2 : xs = st
      · subst h2
        rw [if_pos ⟨rfl, rfl⟩]
        exact (refwhat_same b xs q n tr w).mono (same _)
      · rw [if_neg (fun e => h2 e.2)]
        exact (refwhat_younger b xs q st n tr (by omega) w).mono (same _)

end Go.Proofs.Ytelapiabniabkaa.gate
