/- The contracts of the document's own states (quarrelref05), a state being a block of five numbers, and of what the statements of layer 5 call themselves; when two states are equal. -/
import Derived.Test.YtelapiabniabkaaChoice
import Derived.Test.YtelapiabniabkaaGrow
import Derived.Laws.StructEq
import Derived.Laws.Tables
namespace Go.Proofs.Ytelapiabniabkaa.ch
open Go Go.RowKit Go.Proofs.Ytelapiabniabkaa.base
set_option linter.unusedVariables false

theorem most_in (n : Int) (h : n ≤ 1000000) (w : World) : Calls Try.prog 39 #[.int .i64 n] w fun e w' => e = .returned (.int .i64 n) ∧ w = w' := by
  go_enter Try.func39, Try.ntmps39
  go_wp2
  go_ret
  exact ⟨rfl, rfl⟩

theorem most_out (n : Int) (h : 1000000 < n) (w : World) : Calls Try.prog 39 #[.int .i64 n] w fun e w' => e = .returned (.int .i64 1000000) ∧ w = w' := by
  go_enter Try.func39, Try.ntmps39
  go_wp2
  go_ret
  exact ⟨rfl, rfl⟩

/-- A state of the document's. -/
abbrev RS (w : World) (b : Nat) (f t y p l : Int) : Prop := Blk 48 w b #[.int .i64 f, .int .i64 t, .int .i64 y, .int .i64 p, .int .i64 l]

theorem refmet_same (b : Nat) (f t y p l q : Int) (lo : -9223372036854775808 ≤ t) (w : World) (h : RS w b f t y p l) :
    Calls Try.prog 32 #[.pointer (some ⟨b, 0, none⟩), .int .i64 f, .int .i64 q] w fun e w' => e = .returned (.tuple #[]) ∧ Hid (RS w' b f (cnt t) y p l) ∧ Hid (w.grownBy w' (some b)) := by
  have c0 := h.cell 0
  have c1 := h.cell 1
  have f1 := h.free 1
  have hb := h.lt
  have H := Lib.hid h
  clear h
  by_cases h1 : t < 1000000
  · have e1 := Lib.hid (show cnt t = t + 1 by unfold cnt; omega)
    go_enter Try.func32, Try.ntmps32
    go_wp2_with fail
    refine (most_in (t + 1) (by omega) _).mono ?_
    rintro e v1 ⟨rfl, rfl⟩
    go_wp2
    first | go_end0 | refine bodyPost_ret (results_none rfl _ _ _) rfl ?_
    exact ⟨rfl, by rw [e1.out]; exact (H.out.set 1 _).set 1 _, gb_setB (gb_setB (gb_refl _ _) _) _⟩
  · have e1 := Lib.hid (show cnt t = 1000000 by unfold cnt; omega)
    by_cases h2 : t = 1000000
    · subst h2
      go_enter Try.func32, Try.ntmps32
      go_wp2_with fail
      refine (most_in 1000000 (by omega) _).mono ?_
      rintro e v1 ⟨rfl, rfl⟩
      go_wp2
      first | go_end0 | refine bodyPost_ret (results_none rfl _ _ _) rfl ?_
      exact ⟨rfl, by rw [e1.out]; exact H.out.set 1 _, gb_setB (gb_refl _ _) _⟩
    · go_enter Try.func32, Try.ntmps32
      go_wp2_with fail
      refine (most_out t (by omega) _).mono ?_
      rintro e v1 ⟨rfl, rfl⟩
      go_wp2
      first | go_end0 | refine bodyPost_ret (results_none rfl _ _ _) rfl ?_
      exact ⟨rfl, by rw [e1.out]; exact H.out.set 1 _, gb_setB (gb_refl _ _) _⟩

theorem refmet_other (b : Nat) (f t y p l i q : Int) (hne : (f == i) = false) (w : World) (h : RS w b f t y p l) :
    Calls Try.prog 32 #[.pointer (some ⟨b, 0, none⟩), .int .i64 i, .int .i64 q] w fun e w' => e = .returned (.tuple #[]) ∧ Hid (RS w' b i 1 y q 0) ∧ Hid (w.grownBy w' (some b)) := by
  have c0 := h.cell 0
  have c1 := h.cell 1
  have c3 := h.cell 3
  have c4 := h.cell 4
  have f0 := h.free 0
  have f1 := h.free 1
  have f3 := h.free 3
  have f4 := h.free 4
  have hb := h.lt
  have H := Lib.hid h
  clear h
  go_enter Try.func32, Try.ntmps32
  go_wp2
  first | go_end0 | refine bodyPost_ret (results_none rfl _ _ _) rfl ?_
  exact ⟨rfl, (((H.out.set 0 _).set 1 _).set 3 _).set 4 _, gb_setB (gb_setB (gb_setB (gb_setB (gb_refl _ _) _) _) _) _⟩

theorem reflook_same (b : Nat) (f t y p l n : Int) (lo : -9223372036854775808 ≤ l) (w : World) (h : RS w b f t y p l) :
    Calls Try.prog 33 #[.pointer (some ⟨b, 0, none⟩), .int .i64 p, .int .i64 n] w fun e w' => e = .returned (.bool (decide (n < cnt l))) ∧ Hid (RS w' b f t y p (cnt l)) ∧ Hid (w.grownBy w' (some b)) := by
  have c3 := h.cell 3
  have c4 := h.cell 4
  have f4 := h.free 4
  have hb := h.lt
  have H := Lib.hid h
  clear h
  by_cases h1 : l < 1000000
  · have e1 := Lib.hid (show cnt l = l + 1 by unfold cnt; omega)
    go_enter Try.func33, Try.ntmps33
    go_wp2_with fail
    refine (most_in (l + 1) (by omega) _).mono ?_
    rintro e v1 ⟨rfl, rfl⟩
    go_wp2
    go_ret
    exact ⟨by rw [e1.out]; rfl, by rw [e1.out]; exact (H.out.set 4 _).set 4 _, gb_setB (gb_setB (gb_refl _ _) _) _⟩
  · have e1 := Lib.hid (show cnt l = 1000000 by unfold cnt; omega)
    by_cases h2 : l = 1000000
    · subst h2
      go_enter Try.func33, Try.ntmps33
      go_wp2_with fail
      refine (most_in 1000000 (by omega) _).mono ?_
      rintro e v1 ⟨rfl, rfl⟩
      go_wp2
      go_ret
      exact ⟨by rw [e1.out]; rfl, by rw [e1.out]; exact H.out.set 4 _, gb_setB (gb_refl _ _) _⟩
    · go_enter Try.func33, Try.ntmps33
      go_wp2_with fail
      refine (most_out l (by omega) _).mono ?_
      rintro e v1 ⟨rfl, rfl⟩
      go_wp2
      go_ret
      exact ⟨by rw [e1.out]; rfl, by rw [e1.out]; exact H.out.set 4 _, gb_setB (gb_refl _ _) _⟩

theorem reflook_other (b : Nat) (f t y p l q n : Int) (hne : (q != p) = true) (w : World) (h : RS w b f t y p l) :
    Calls Try.prog 33 #[.pointer (some ⟨b, 0, none⟩), .int .i64 q, .int .i64 n] w fun e w' => e = .returned (.bool (decide (n < 0))) ∧ Hid (RS w' b f t y q 0) ∧ Hid (w.grownBy w' (some b)) := by
  have c3 := h.cell 3
  have c4 := h.cell 4
  have f3 := h.free 3
  have f4 := h.free 4
  have hb := h.lt
  have H := Lib.hid h
  clear h
  go_enter Try.func33, Try.ntmps33
  go_wp2
  go_ret
  exact ⟨rfl, (H.out.set 3 _).set 4 _, gb_setB (gb_setB (gb_refl _ _) _) _⟩

theorem plain_any (f t y p l : Int) (w : World) : Calls Try.prog 20 #[.agg #[.int .i64 f, .int .i64 t, .int .i64 y, .int .i64 p, .int .i64 l]] w fun e w' => e = .returned (.agg #[.int .i64 f, .int .i64 t, .int .i64 y, .int .i64 p, .int .i64 l]) ∧ Hid (w.grownBy w' none) := by
  go_enter Try.func20, Try.ntmps20
  go_wp2
  refine bodyPost_ret (v := .agg #[.int .i64 f, .int .i64 t, .int .i64 y, .int .i64 p, .int .i64 l]) (by simp [results, Try.results20, go_sem]) rfl ⟨rfl, ?_⟩
  repeat (first | exact gb_refl _ _ | refine gb_alloc ?_ _ | refine gb_drewN ?_ _ | refine gb_setNew ?_ (by simp) _)

/-- What a state is behind a foe i with a pulse q that was met: its tries, its pulse, its looks; and the looks behind a look at the pulse q. -/
def mT (f i t : Int) : Int := if f = i then cnt t else 1
def mP (f i p q : Int) : Int := if f = i then p else q
def mL (f i l : Int) : Int := if f = i then l else 0
def lL (p q l : Int) : Int := if p = q then cnt l else 0
theorem mL_lo (f i l : Int) (h : -9223372036854775808 ≤ l) : -9223372036854775808 ≤ mL f i l := by unfold mL; split <;> omega

theorem met_any (f t y p l i st pr q : Int) (b : Bool) (lo : -9223372036854775808 ≤ t) (w : World) :
    Calls Try.prog 30 #[.agg #[.int .i64 f, .int .i64 t, .int .i64 y, .int .i64 p, .int .i64 l], .agg #[.int .i64 i, .int .i64 st, .int .i64 pr, .int .i64 q, .bool b]] w fun e w' => e = .returned (.agg #[.int .i64 i, .int .i64 (mT f i t), .int .i64 y, .int .i64 (mP f i p q), .int .i64 (mL f i l)]) ∧ Hid (w.grownBy w' none) := by
  by_cases h : f = i
  · subst h
    rw [show mT f f t = cnt t by simp [mT], show mP f f p q = p by simp [mP], show mL f f l = l by simp [mL]]
    exact met_same f t y p l st pr q b lo w
  · rw [show mT f i t = 1 by simp [mT, h], show mP f i p q = q by simp [mP, h], show mL f i l = 0 by simp [mL, h]]
    exact met_other f t y p l i st pr q b (by simpa using h) w

theorem refmet_any (b : Nat) (f t y p l i q : Int) (lo : -9223372036854775808 ≤ t) (w : World) (h : RS w b f t y p l) :
    Calls Try.prog 32 #[.pointer (some ⟨b, 0, none⟩), .int .i64 i, .int .i64 q] w fun e w' => e = .returned (.tuple #[]) ∧ Hid (RS w' b i (mT f i t) y (mP f i p q) (mL f i l)) ∧ Hid (w.grownBy w' (some b)) := by
  by_cases e : f = i
  · subst e
    rw [show mT f f t = cnt t by simp [mT], show mP f f p q = p by simp [mP], show mL f f l = l by simp [mL]]
    exact refmet_same b f t y p l q lo w h
  · rw [show mT f i t = 1 by simp [mT, e], show mP f i p q = q by simp [mP, e], show mL f i l = 0 by simp [mL, e]]
    exact refmet_other b f t y p l i q (by simpa using e) w h

theorem look_any (f t y p l q n : Int) (lo : -9223372036854775808 ≤ l) (w : World) :
    Calls Try.prog 31 #[.agg #[.int .i64 f, .int .i64 t, .int .i64 y, .int .i64 p, .int .i64 l], .int .i64 q, .int .i64 n] w fun e w' => e = .returned (.tuple #[.agg #[.int .i64 f, .int .i64 t, .int .i64 y, .int .i64 q, .int .i64 (lL p q l)], .bool (decide (n < lL p q l))]) ∧ Hid (w.grownBy w' none) := by
  by_cases h : p = q
  · subst h
    rw [show lL p p l = cnt l by simp [lL]]
    exact look_same f t y p l n lo w
  · rw [show lL p q l = 0 by simp [lL, h]]
    exact look_other f t y p l q n (by simpa using h) w

theorem reflook_any (b : Nat) (f t y p l q n : Int) (lo : -9223372036854775808 ≤ l) (w : World) (h : RS w b f t y p l) :
    Calls Try.prog 33 #[.pointer (some ⟨b, 0, none⟩), .int .i64 q, .int .i64 n] w fun e w' => e = .returned (.bool (decide (n < lL p q l))) ∧ Hid (RS w' b f t y q (lL p q l)) ∧ Hid (w.grownBy w' (some b)) := by
  by_cases e : p = q
  · subst e
    rw [show lL p p l = cnt l by simp [lL]]
    exact reflook_same b f t y p l n lo w h
  · rw [show lL p q l = 0 by simp [lL, e]]
    exact reflook_other b f t y p l q n (by simpa using fun h => e h.symm) w h

@[go_sem] theorem eqSt (a0 a1 a2 a3 a4 b0 b1 b2 b3 b4 : Int) (w : World) : (Op.equalIn 10000 48 (.agg #[.int .i64 a0, .int .i64 a1, .int .i64 a2, .int .i64 a3, .int .i64 a4]) (.agg #[.int .i64 b0, .int .i64 b1, .int .i64 b2, .int .i64 b3, .int .i64 b4])).run Try.prog w = .ok (a0 == b0 && a1 == b1 && a2 == b2 && a3 == b3 && a4 == b4) w := by
  have u3 := Try.underlying3
  have ag3 := Try.isAgg3
  have z3 := Try.sizeOf3
  rw [show (10000 : Nat) = 9999 + 1 from rfl, run_equalIn_struct _ _ _ _ _ (by kernel_rfl) (by kernel_rfl)]
  simp only [Program.fieldsOf, Try.underlying48]
  go_simp
  have step : ∀ (a b : Int) (X : Result Bool) (Y : Bool), X = .ok Y w → (if a = b then X else .ok false w) = .ok (a == b && Y) w := by
    intro a b X Y h
    by_cases e : a = b
    · simp [e, h]
    · simp [e]
  have last : ∀ (a b : Int), (if a = b then (Result.ok true w : Result Bool) else .ok false w) = .ok (a == b) w := by
    intro a b
    by_cases e : a = b <;> simp [e]
  simp only [Bool.and_assoc]
  iterate 4 refine step _ _ _ _ ?_
  exact last _ _

end Go.Proofs.Ytelapiabniabkaa.ch
