/- The contract of package lang's op. -/
import Derived.Test.YtjajhkgbhckdeaaApp
import Derived.Test.YtjajhkgbhckdeaaOwn
import Derived.BigQuiet
import Derived.Deep.QuietTactic
import Derived.Deep.CutRange
import Derived.Deep.DeepCutAuto
import Derived.IntWalk
namespace Go.Proofs.Ytjajhkgbhckdeaa.lg
open Go Go.RowKit Go.Proofs.Ytjajhkgbhckdeaa.base
set_option linter.unusedVariables false

theorem op_any (b off cap : Nat) (x0 x1 x2 : Int) (w : World) (h0 : w.cell? ⟨b, off, none⟩ = some (.int .u8 x0)) (h1 : w.cell? ⟨b, off + 1, none⟩ = some (.int .u8 x1)) (h2 : w.cell? ⟨b, off + 2, none⟩ = some (.int .u8 x2)) (l0 : 0 ≤ x0 ∧ x0 ≤ 255) (l1 : 0 ≤ x1 ∧ x1 ≤ 255) (l2 : 0 ≤ x2 ∧ x2 ≤ 255) :
    Calls Try.prog 26 #[.slice (some ⟨b, off, none⟩) 3 cap] w fun e w' => e = .returned (.agg #[.int .i64 x0, .int .i64 x1, .int .i64 (s8 x2)]) ∧ Hid (w.grownBy w' none) := by
  obtain ⟨l00, l01⟩ := l0
  obtain ⟨l10, l11⟩ := l1
  obtain ⟨l20, l21⟩ := l2
  have e0 : IntKind.i64.wrap x0 = x0 := IntWalk.i64_in _ (by omega)
  have e1 : IntKind.i64.wrap x1 = x1 := IntWalk.i64_in _ (by omega)
  have hb := World.block_lt_of_cell? w _ h0
  have n0 : w.heap.size ≠ b := by simp at hb; omega
  have n1 : b ≠ w.heap.size := by simp at hb; omega
  have G := Lib.hid (World.grownBy_alloc w (.cells #[.int .i64 0, .int .i64 0, .int .i64 0] 24) none)
  have O := Lib.hid (Blk.made w 24 #[.int .i64 0, .int .i64 0, .int .i64 0])
  have c0 := G.out.cell h0 (by simp)
  have c1 := G.out.cell h1 (by simp)
  have c2 := G.out.cell h2 (by simp)
  have e2 : IntKind.i8.wrap x2 = s8 x2 := by
    have h1 : x2 % 256 = x2 := by omega
    have h2 : IntKind.i8.wrap x2 = if 128 ≤ x2 % 256 then x2 % 256 - 256 else x2 % 256 := by simp only [IntKind.wrap, show IntKind.i8.signed = true from rfl, show IntKind.i8.bits = 8 from rfl, Bool.true_and, decide_eq_true_eq]; rfl
    rw [h2, h1]
    unfold s8
    split <;> split <;> omega
  have e3 : IntKind.i64.wrap (s8 x2) = s8 x2 := IntWalk.i64_in _ (by unfold s8; split <;> omega)
  clear h0 h1 h2
  go_enter Try.func26, Try.ntmps26
  go_upto_region 1 with fail
  generalize w.alloc _ = v at *
  generalize hob : w.heap.size = ob at *
  have HB := Lib.hid hob
  clear hob
  have o0 := O.out.at 0 rfl; have o1 := O.out.at 1 rfl; have o2 := O.out.at 2 rfl
  have f0 := O.out.free 0; have f1 := O.out.free 1; have f2 := O.out.free 2
  have hb2 := World.block_lt_of_cell? v _ c0
  simp only at hb2
  go_region
  go_wp2
  have O3 := Lib.hid (((O.out.set 0 (.int .i64 x0)).set 1 (.int .i64 x1)).set 2 (.int .i64 (s8 x2)))
  have G3 := Lib.hid (gb_setNew (gb_setNew (gb_setNew G.out (p := ⟨ob, 0, none⟩) (by have := HB.out; simp; omega) (.int .i64 x0)) (p := ⟨ob, 1, none⟩) (by have := HB.out; simp; omega) (.int .i64 x1)) (p := ⟨ob, 2, none⟩) (by have := HB.out; simp; omega) (.int .i64 (s8 x2)))
  generalize ((v.setCell _ _).setCell _ _).setCell _ _ = v3 at *
  clear o0 o1 o2
  have o0 : v3.cell? ⟨ob, 0, none⟩ = some (.int .i64 x0) := O3.out.cell 0
  have o1 : v3.cell? ⟨ob, 1, none⟩ = some (.int .i64 x1) := O3.out.cell 1
  have o2 : v3.cell? ⟨ob, 2, none⟩ = some (.int .i64 (s8 x2)) := O3.out.cell 2
  refine bodyPost_ret (v := .agg #[.int .i64 x0, .int .i64 x1, .int .i64 (s8 x2)]) ?_ rfl ⟨rfl, gb_drew G3.out⟩
  simp [results, Try.results26, go_sem, *]
end Go.Proofs.Ytjajhkgbhckdeaa.lg
