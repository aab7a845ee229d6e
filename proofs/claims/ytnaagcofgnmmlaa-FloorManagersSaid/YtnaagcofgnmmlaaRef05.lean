/- The contracts of the document's own states (quarrelref05), a state being a block of five numbers, and of what the statements of layer 5 call themselves; when two states are equal. -/
import Derived.Test.YtnaagcofgnmmlaaChoice
import Derived.Test.YtnaagcofgnmmlaaGrow
import Derived.Laws.StructEq
import Derived.Laws.Tables
namespace Go.Proofs.Ytnaagcofgnmmlaa.ch
open Go Go.RowKit Go.Proofs.Ytnaagcofgnmmlaa.base
set_option linter.unusedVariables false

/-- What a state is behind a foe i with a pulse q that was met: its tries, its pulse, its looks; and the looks behind a look at the pulse q. -/
def mT (f i t : Int) : Int := if f = i then cnt t else 1
def mP (f i p q : Int) : Int := if f = i then p else q
def mL (f i l : Int) : Int := if f = i then l else 0
def lL (p q l : Int) : Int := if p = q then cnt l else 0
theorem mL_lo (f i l : Int) (h : -9223372036854775808 ≤ l) : -9223372036854775808 ≤ mL f i l := by unfold mL; split <;> omega

theorem met_any (f t y p l i st pr q : Int) (b : Bool) (lo : -9223372036854775808 ≤ t) (w : World) :
    Calls Try.prog 53 #[.agg #[.int .i64 f, .int .i64 t, .int .i64 y, .int .i64 p, .int .i64 l], .agg #[.int .i64 i, .int .i64 st, .int .i64 pr, .int .i64 q, .bool b]] w fun e w' => e = .returned (.agg #[.int .i64 i, .int .i64 (mT f i t), .int .i64 y, .int .i64 (mP f i p q), .int .i64 (mL f i l)]) ∧ Hid (w.grownBy w' none) := by
  by_cases h : f = i
  · subst h
    rw [show mT f f t = cnt t by simp [mT], show mP f f p q = p by simp [mP], show mL f f l = l by simp [mL]]
    exact met_same f t y p l st pr q b lo w
  · rw [show mT f i t = 1 by simp [mT, h], show mP f i p q = q by simp [mP, h], show mL f i l = 0 by simp [mL, h]]
    exact met_other f t y p l i st pr q b (by simpa using h) w

theorem look_any (f t y p l q n : Int) (lo : -9223372036854775808 ≤ l) (w : World) :
    Calls Try.prog 64 #[.agg #[.int .i64 f, .int .i64 t, .int .i64 y, .int .i64 p, .int .i64 l], .int .i64 q, .int .i64 n] w fun e w' => e = .returned (.tuple #[.agg #[.int .i64 f, .int .i64 t, .int .i64 y, .int .i64 q, .int .i64 (lL p q l)], .bool (decide (n < lL p q l))]) ∧ Hid (w.grownBy w' none) := by
  by_cases h : p = q
  · subst h
    rw [show lL p p l = cnt l by simp [lL]]
    exact look_same f t y p l n lo w
  · rw [show lL p q l = 0 by simp [lL, h]]
    exact look_other f t y p l q n (by simpa using h) w

end Go.Proofs.Ytnaagcofgnmmlaa.ch
