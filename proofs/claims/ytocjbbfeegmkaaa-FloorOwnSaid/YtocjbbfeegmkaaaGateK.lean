/- The contracts of package gate's small functions: whether a thread is there, a stamp and a thread in one number, and what is done by what is seen; when two sights are equal; the document's own answer (quarrelref10.What), too. -/
import Derived.Test.YtocjbbfeegmkaaaRef05
import Derived.Test.YtocjbbfeegmkaaaOwnK
import Derived.Test.YtocjbbfeegmkaaaWd
import Derived.Deep.CutRange
import Derived.Deep.DeepCutAuto
import Derived.Deep.OwnRows
namespace Go.Proofs.Ytocjbbfeegmkaaa.gate
open Go Go.RowKit Go.Proofs.Ytocjbbfeegmkaaa.base Go.Proofs.Ytocjbbfeegmkaaa.ch Go.Proofs.Ytocjbbfeegmkaaa.wd
set_option linter.unusedVariables false

@[go_sem] theorem eqSight (a0 b0 : Bool) (a1 a2 a3 b1 b2 b3 : Int) (w : World) : (Op.equalIn 10000 58 (.agg #[.bool a0, .int .i64 a1, .int .i64 a2, .int .i64 a3]) (.agg #[.bool b0, .int .i64 b1, .int .i64 b2, .int .i64 b3])).run Try.prog w = .ok (a0 == b0 && a1 == b1 && a2 == b2 && a3 == b3) w := by
  have u3 := Try.underlying3
  have ag3 := Try.isAgg3
  have z3 := Try.sizeOf3
  have u4 := Try.underlying4
  have ag4 := Try.isAgg4
  have z4 := Try.sizeOf4
  rw [show (10000 : Nat) = 9999 + 1 from rfl, run_equalIn_struct _ _ _ _ _ (by kernel_rfl) (by kernel_rfl)]
  simp only [Program.fieldsOf, Try.underlying58]
  go_simp
  have step : ∀ (a b : Int) (X : Result Bool) (Y : Bool), X = .ok Y w → (if a = b then X else .ok false w) = .ok (a == b && Y) w := by
    intro a b X Y h
    by_cases e : a = b
    · simp [e, h]
    · simp [e]
  have stepB : ∀ (a b : Bool) (X : Result Bool) (Y : Bool), X = .ok Y w → (if a = b then X else .ok false w) = .ok (a == b && Y) w := by
    intro a b X Y h
    by_cases e : a = b
    · simp [e, h]
    · simp [e]
  have last : ∀ (a b : Int), (if a = b then (Result.ok true w : Result Bool) else .ok false w) = .ok (a == b) w := by
    intro a b
    by_cases e : a = b <;> simp [e]
  simp only [Bool.and_assoc]
  refine stepB _ _ _ _ ?_
  iterate 2 refine step _ _ _ _ ?_
  exact last _ _

theorem has_nil (t : Int) (w : World) : Calls Try.prog 48 #[.pointer none, .int .i64 t] w fun e w' => e = .returned (.bool false) ∧ w = w' := by
  go_enter Try.func48, Try.ntmps48
  go_wp2
  go_ret
  exact ⟨rfl, rfl⟩

/-- Block g is a gate whose word is in block sw, and whose n pulses are in block pb. -/
abbrev GB (w : World) (g sw pb n : Nat) : Prop := Blk 105 w g ⟨[.pointer (some ⟨sw, 0, none⟩), .int .i64 0, .slice (some ⟨pb, 0, none⟩) n n]⟩

theorem has_in (g sw pb n : Nat) (t : Int) (h0 : 0 ≤ t) (h1 : t < (n : Int)) (w : World) (h : GB w g sw pb n) : Calls Try.prog 48 #[.pointer (some ⟨g, 0, none⟩), .int .i64 t] w fun e w' => e = .returned (.bool true) ∧ w = w' := by
  have c2 := h.at 2 rfl
  have hb := h.lt
  clear h
  go_enter Try.func48, Try.ntmps48
  go_wp2
  go_ret
  exact ⟨rfl, rfl⟩

theorem has_out (g sw pb n : Nat) (t : Int) (h0 : t < 0 ∨ (n : Int) ≤ t) (w : World) (h : GB w g sw pb n) : Calls Try.prog 48 #[.pointer (some ⟨g, 0, none⟩), .int .i64 t] w fun e w' => e = .returned (.bool false) ∧ w = w' := by
  have c2 := h.at 2 rfl
  have hb := h.lt
  clear h
  have h0' : t < 0 ∨ (0 ≤ t ∧ (n : Int) ≤ t) := by omega
  clear h0
  rcases h0' with h0 | ⟨h0, h1⟩
  · go_enter Try.func48, Try.ntmps48
    go_wp2
    go_ret
    exact ⟨rfl, rfl⟩
  · have hd : decide (t < (n : Int)) = false := by simpa using h1
    clear h1
    go_enter Try.func48, Try.ntmps48
    go_wp2
    go_ret
    exact ⟨rfl, rfl⟩

theorem together_any (s t : Int) (h0 : 0 ≤ s) (h1 : s ≤ 1099511627776) (h2 : 0 ≤ t) (h3 : t ≤ 6) (w : World) : Calls Try.prog 57 #[.int .i64 s, .int .i64 t] w fun e w' => e = .returned (.int .i64 (s * 6 + t + 1)) ∧ w = w' := by
  have e1 : s.tmod 1537228672809129301 = s := by rw [Int.tmod_eq_emod_of_nonneg h0]; omega
  have e2 : IntKind.i64.wrap (s * 6) = s * 6 := IntWalk.i64_in _ (by omega)
  have e3 : IntKind.i64.wrap (s * 6 + t) = s * 6 + t := IntWalk.i64_in _ (by omega)
  have e4 : IntKind.i64.wrap (s * 6 + t + 1) = s * 6 + t + 1 := IntWalk.i64_in _ (by omega)
  go_enter Try.func57, Try.ntmps57
  go_wp2
  go_ret
  exact ⟨rfl, rfl⟩

theorem apart_any (m s t : Int) (hm : m = s * 6 + t + 1) (h0 : 0 ≤ s) (h1 : s ≤ 1099511627776) (h2 : 0 ≤ t) (h3 : t < 6) (w : World) : Calls Try.prog 47 #[.int .i64 m] w fun e w' => e = .returned (.tuple #[.int .i64 s, .int .i64 t]) ∧ w = w' := by
  have e1 : IntKind.i64.wrap (m - 1) = m - 1 := IntWalk.i64_in _ (by omega)
  have e2 : (m - 1).tdiv 6 = s := by rw [Int.tdiv_eq_ediv_of_nonneg (by omega)]; omega
  have e3 : (m - 1).tmod 6 = t := by rw [Int.tmod_eq_emod_of_nonneg (by omega)]; omega
  have e4 : IntKind.i64.wrap s = s := IntWalk.i64_in _ (by omega)
  clear hm
  go_enter Try.func47, Try.ntmps47
  go_wp2
  go_ret2
  exact ⟨rfl, rfl⟩

end Go.Proofs.Ytocjbbfeegmkaaa.gate
